import PyProof.Rows.All
import Wide.All
import OpenK.AllK
import Wide.FinOn
import PyProof.ReprRoads
import HandS.Base
import HandS.Call
import HandS.List
import HandS.Comp
import HandS.Ends
import HandS.Words
import HandS.WordsList
import HandS.Defaults
import PyProof.ReprLen
import HandS.Iter
import HandS.Walk
import KE.GoesEnumKw
import KE.GoesRev
import HandS.MakeKwOnly
import HandS.Property
import PyProof.InstNe
import PyProof.FString2
import PyProof.FString5
import HandS.IsInst
import HandS.FStr
import KE.KExcInit
import KE.KExcIs
import HandS.Exc
import HandS.ExcInit
import HandS.ExcField
import HandS.ExcIs
import HandS.WordsExc
import HandS.Gcd
import HandS.Dict
import HandS.ExcOwn
import KE.GoesMore
import KE.KCallOwn
import HandS.Text
import HandS.Star
import HandS.ClsMeth
import PyProof.EnumMake
import PyProof.ReprNest
import KE.KIntText
import HandS.ForMost
import HandS.Conv
import HandS.Style
import HandS.Deep
import HandS.TupLe
import HandS.NoneIn
import HandS.TryOnly
import HandS.More
import HandS.Flow
import HandS.DeepEq
import PySem.Challenge.RW_dueways_k38_supplies_tick_by_tick
set_option Elab.async false
set_option linter.all false
set_option maxRecDepth 100000
set_option maxHeartbeats 4000000
/-! A def's promise where no repr runs around it (guards are known to be empty), so that repr of data may be asked inside. -/
namespace VG
open PySem PySem.Spec PyProof.Rows L2

/-- repr of data -/
def rRepr (K : PySem.W.Frag) : List V → Hp → VK → Prop := fun xs H Q =>
  ∃ v d, xs = [v] ∧ Dp K H v d ∧ d.showable = true ∧ d.depth ≤ 60 ∧ d.shown.length ≤ sizeLine ∧ Q (.str d.shown) H

theorem dp_noDict (K : PySem.W.Frag) (H : Hp) : (∀ d v, Dp K H v d → d.hasDict = false) ∧ (∀ ds vs, DpAll K H vs ds → PyData.hasDictAll ds = false) := by
  have one : ∀ n, (∀ d v, sizeOf d < n → Dp K H v d → d.hasDict = false) ∧
      (∀ ds vs, sizeOf ds < n → DpAll K H vs ds → PyData.hasDictAll ds = false) := by
    intro n
    induction n with
    | zero => exact ⟨fun _ _ h => absurd h (Nat.not_lt_zero _), fun _ _ h => absurd h (Nat.not_lt_zero _)⟩
    | succ n ih =>
      refine ⟨fun d v hz h => ?_, fun ds vs hz h => ?_⟩
      · cases h with
        | non => rfl
        | bl => rfl
        | int => rfl
        | str => rfl
        | lst _ ha =>
          simp only [PyData.hasDict]
          exact ih.2 _ _ (by simp at hz; omega) ha
        | tup _ ha =>
          simp only [PyData.hasDict]
          exact ih.2 _ _ (by simp at hz; omega) ha
      · cases h with
        | nil => rfl
        | cons h1 h2 =>
          simp only [PyData.hasDictAll]
          rw [ih.1 _ _ (by simp at hz; omega) h1, ih.2 _ _ (by simp at hz; omega) h2]
          rfl
  exact ⟨fun d v => (one (sizeOf d + 1)).1 d v (Nat.lt_succ_self _), fun ds vs => (one (sizeOf ds + 1)).2 ds vs (Nat.lt_succ_self _)⟩

theorem call_repr {X : Cx} (hg : X.A.guards = some []) (hu : X.A.units + 64 < cLine) : CallR X (.builtin "repr") (rRepr X.K) := by
  intro pins s σ H xs us Q I r h
  obtain ⟨v, d, rfl, hd, hs, hdep, hz, q⟩ := h
  obtain ⟨u, rfl, rv⟩ := vals1 r
  have keep : ∀ (h' : Heap) (t' : Nat), (∀ b o, s.heap.get? b = some o → h'.get? b = some o) → Inv X pins σ H { s with heap := h', toks := t' } :=
    fun h' t' k => I.kept (t' := t') k
  have nd := (dp_noDict X.K H).1 d v hd
  obtain ⟨as, rd⟩ := Dp.reads I d v u hd rv
  cases hd with
  | non =>
    cases rv
    exact PySem.P.repr_of_none ⟨.str _, H, I.tok _, ⟨_, rfl⟩, q⟩
  | bl b =>
    cases rv
    refine PySem.P.repr_of_bool ⟨.str _, H, I.tok _, ⟨_, rfl⟩, ?_⟩
    exact q
  | int i =>
    obtain ⟨t, rfl⟩ := rv
    exact PySem.P.repr_of_int (by simpa [PyData.showable] using hs) ⟨.str _, H, I.tok _, ⟨_, rfl⟩, q⟩
  | str x =>
    obtain ⟨t, rfl⟩ := rv
    exact PySem.P.repr_of_str ⟨.str _, H, I.tok _, ⟨_, rfl⟩, q⟩ hz
  | lst _ _ =>
    cases rv
    exact repr_of_reads' rd hs (fun e => by rw [nd] at e; cases e) hg (by omega) (fun _ _ e => e) (fun h' w tk k => ⟨.str _, H, keep h' tk k, ⟨_, rfl⟩, q⟩) hz
  | tup _ _ =>
    cases rv
    exact repr_of_reads' rd hs (fun e => by rw [nd] at e; cases e) hg (by omega) (fun _ _ e => e) (fun h' w tk k => ⟨.str _, H, keep h' tk k, ⟨_, rfl⟩, q⟩) hz

def rLen (K : PySem.W.Frag) : List V → Hp → VK → Prop := fun xs H Q =>
  ∃ p ys, xs = [.ref p] ∧ (SqL K H p ys ∨ SqT K H p ys) ∧ Q (.int ys.length) H
theorem call_len {X : Cx} : CallR X (.builtin "len") (rLen X.K) := call_len_seq
def rListOf (K : PySem.W.Frag) : List V → Hp → VK → Prop := fun xs H Q =>
  ∃ p ys, xs = [.ref p] ∧ (SqL K H p ys ∨ SqT K H p ys) ∧ ∀ l, H l = none → Q (.ref l) (upd H l (.lst ys))
theorem call_listOf {X : Cx} : CallR X (.type "list") (rListOf X.K) := call_list_of

/-- a def's promise, asked only where guards are empty -/
structure FnG (P : Program) (w : World) (K : PySem.W.Frag) (mg : Str → Option Value) (base : Heap) (CX : CXT)
    (k : Nat) (f : Addr) (fd : FuncData) (ps : List Str) (sp : Sp) : Prop where
  arity : ∀ as H Q E, sp as H Q E → as.length = ps.length
  go : ∀ (A : Around) (outer : List Env) (s : Shared) (H : Hp) (args : Args) (us : List Value) (as : List V) (Q : VK) (E : XK),
    A.guards = some [] → Room k A → Env0 P w K mg base A outer s H → BindsTo s fd args (ps.zip us) → Vals as us → sp as H Q E →
      codeAny (model P w) A (.call (.ref f) args) (CR CX outer P w H s Q E) s

section
variable {P : Program} {w : World} {K : PySem.W.Frag} {mg : Str → Option Value} {base : Heap} {CX : CXT}
theorem FnG.of {k : Nat} {f : Addr} {fd : FuncData} {ps : List Str} {sp : Sp} (F : FnOk P w K mg base CX k f fd ps sp) :
    FnG P w K mg base CX k f fd ps sp :=
  ⟨F.len, fun A outer s H args us as Q E _ => F.run A outer s H args us as Q E⟩

/-- a def by its body -/
theorem okG {x qual : Str} {st : Stmt} {f : Addr} {fd : FuncData} {N ps : List Str} {k : Nat} {sp : Sp}
    (F : Fun K x qual st f fd) (S : FnScope N ps (defScope st)) (len : ∀ as H Q E, sp as H Q E → as.length = ps.length)
    (body : ∀ (cdv : Value) (A : Around) (outer : List Env) (s : Shared) (H : Hp) (as : List V) (Q : VK) (E : XK),
      (A.deeper (envOfC qual (defScope st) s.heap.objs.size f cdv)).guards = some [] →
      Room k (A.deeper (envOfC qual (defScope st) s.heap.objs.size f cdv)) → sp as H Q E →
      ∃ t, PSs (cxOf CX P w K mg base N qual (defScope st) f cdv A outer s H E) (defBody st) t ∧
        t { nx := fun _ H' => Q .non H', rt := Q } (start N as) H) :
    FnG P w K mg base CX (k + 1) f fd ps sp := by
  obtain ⟨oc, od, kV, doc, pm, an, cdv, ct, osl, rfl, lk, hcd⟩ := F.ex
  refine ⟨len, fun A outer s H args us as Q E hA hr e0 hb r hsp => ?_⟩
  have hl := len _ _ _ _ hsp
  have KX : K.In s.heap := e0.mod.kin.keeps fun b o e => (e0.bs b o e).1
  have lim : s.heap.NoLimit := e0.mod.nolimit.keeps fun b o e => (e0.bs b o e).1
  have kinds : ∀ y ∈ ps.zip us, (defScope st).names.lookup y.1 = some .local ∨
      ((defScope st).names.lookup y.1 = some .cell ∧ ((cellsFrom (s.heap.objs.size + 1) (defScope st).names []).lookup y.1).isSome = true) := by
    rintro ⟨n, v⟩ hy
    rcases S.par n (List.of_mem_zip hy).1 with q | q
    · exact .inl q
    · exact .inr ⟨q, PySem.W.cellsFrom_some _ _ _ (.inl q)⟩
  refine codeAny_call_function hr.depth (KX _ _ lk) rfl S.co S.gen rfl (PySem.W.codeRec_of KX hcd) (hb _ _ _ _ ?_)
  refine wpAny_newFunctionEnv_cells S.kind kinds fun env he s1 z => ?_
  subst he
  refine ⟨lim.keeps z.toInCall.keep, codeAny_func ?_⟩
  obtain ⟨t, ht, hq⟩ := body cdv A outer s H as Q E hA (hr.deeper _) hsp
  have I0 : Inv (cxOf CX P w K mg base N qual (defScope st) f cdv A outer s H E) [] (start N as) H s1 :=
    inv_start S hr.hd e0 hl r z
  refine wpAny_mono (ht.run [] s1 (start N as) H _ I0 hq) ?_ fun e s' hs => hs
  intro fl s' hs
  have done : ∀ (σ' : L2.St) (H' : Hp) (v : V) (u : Value), Inv (cxOf CX P w K mg base N qual (defScope st) f cdv A outer s H E) [] σ' H' s' →
      RelV v u → Q v H' → CE outer P w H s Q u s' := fun σ' H' v u J rv q => ⟨v, H', J.os, J.bare, J.base, J.hok, rv, q⟩
  cases fl with
  | ret u =>
    obtain ⟨v, σ', H', J, rv, q⟩ := hs
    exact done σ' H' v u J rv q
  | next =>
    obtain ⟨σ', H', J, q⟩ := hs
    exact done σ' H' V.non Value.none J rfl q
  | brk => exact hs.elim fun _ h => h.elim fun _ h => False.elim h.2
  | cont => exact hs.elim fun _ h => h.elim fun _ h => False.elim h.2
end

section
variable {P : Program} {w : World} {K : PySem.W.Frag} {mg : Str → Option Value} {base : Heap}
/-- .. that lets nothing out -/
theorem okG0 {x qual : Str} {st : Stmt} {f : Addr} {fd : FuncData} {N ps : List Str} {k : Nat} {sp : Sp}
    (F : Fun K x qual st f fd) (S : FnScope N ps (defScope st)) (len : ∀ as H Q E, sp as H Q E → as.length = ps.length)
    (body : ∀ (cdv : Value) (A : Around) (outer : List Env) (s : Shared) (H : Hp) (as : List V) (Q : VK) (E : XK),
      (A.deeper (envOfC qual (defScope st) s.heap.objs.size f cdv)).guards = some [] →
      Room k (A.deeper (envOfC qual (defScope st) s.heap.objs.size f cdv)) → sp as H Q E →
      ∃ t, PSs (cxOf CX0 P w K mg base N qual (defScope st) f cdv A outer s H E).nox (defBody st) t ∧
        t { nx := fun _ H' => Q .non H', rt := Q } (start N as) H) :
    FnG P w K mg base CX0 (k + 1) f fd ps sp :=
  okG F S len fun cdv A outer s H as Q E hA hr h =>
    let ⟨t, h1, h2⟩ := body cdv A outer s H as Q E hA hr h
    ⟨t, h1.nox, h2⟩
end

section
variable {X : Cx} {CX : CXT} {k : Nat} {f : Addr} {fd : FuncData} {ps : List Str} {sp : Sp} {E : XK} {x : Str} {p pos : Pos} {e : Expr} {es : List Expr} {t : TA}
theorem runG {pins : List (Addr × Obj)} {σ : L2.St} {H : Hp} {s : Shared} {Q : VK} {us : List Value} {as : List V}
    (F : FnG X.prog X.w X.K X.mg X.base CX k f fd ps sp) (hA : X.A.guards = some []) (hr : Room k X.A) (hb : Binds X.K fd ps [])
    (hx : Passes CX X E) (I : Inv X pins σ H s) (r : Vals as us) (h : sp as H Q E) :
    wpAny (model X.prog X.w) X.A (call (.ref f) us) (EP X pins σ Q) X.xe s := by
  have hn : us.length = ps.length := r.length.symm.trans (F.arity _ _ _ _ h)
  have bind := hb s us I.kIn (by rw [List.append_nil]; exact hn)
  rw [List.append_nil] at bind
  refine wpAny_call (codeAny_mono (F.go X.A X.stack s H ⟨us, []⟩ us as Q E hA hr I.env0 bind r h) ?_)
  intro res s' hq
  match res, hq with
  | .error e, hq => exact hx pins σ H s e s' I hq
  | .ok (.ret u), hq => exact I.after hq
  | .ok .next, hq => exact False.elim hq
  | .ok .brk, hq => exact False.elim hq
  | .ok .cont, hq => exact False.elim hq
/-- f(e, ..) -/
theorem pe_callG (F : FnG X.prog X.w X.K X.mg X.base CX k f fd ps sp) (hA : X.A.guards = some []) (hr : Room k X.A) (hg : Gl X x)
    (hm : X.mg x = some (.ref f)) (hk : PySem.W.keepIn X.K (.ref f) = true) (hb : Binds X.K fd ps []) (hx : Passes CX X E) (ha : PA X (e :: es) t)
    (hdb : (x == ("__debug__" : Str)) = false := by decide) (he : starEach (e :: es) X.env = (false, eval e X.env) :: starEach es X.env := by rfl)
    (hpl : (backTo pos (starEach es X.env)).any (·.1) = false := by rfl) :
    PE X (.Call (.Name x p) (e :: es) [] pos) (tCall sp [] E t) := by
  constructor
  intro pins s σ H Q I h
  refine wpAny_Call_Name_kw (ld_glob I hg hm ?_ hdb)
  have args := ha.run pos pins s σ H _ I h
  refine PySem.W.callWith_K (h₀ := X.base) I.ok.mod.kin hk (thn args ?_) he hpl
  rintro us s1 ⟨as, H1, I1, r, q⟩
  rw [List.append_nil] at q
  exact ⟨I1.kIn, runG F hA hr hb hx I1 r q⟩
theorem pe_callG0 (F : FnG X.prog X.w X.K X.mg X.base CX k f fd ps sp) (hA : X.A.guards = some []) (hr : Room k X.A) (hg : Gl X x)
    (hm : X.mg x = some (.ref f)) (hk : PySem.W.keepIn X.K (.ref f) = true) (hb : Binds X.K fd ps []) (hx : Passes CX X E)
    (hdb : (x == ("__debug__" : Str)) = false := by decide) : PE X (.Call (.Name x p) [] [] pos) (tCall sp [] E tNil) := by
  constructor
  intro pins s σ H Q I h
  refine wpAny_Call_Name_kw (ld_glob I hg hm ?_ hdb)
  exact PySem.W.callWith_K0 I.kIn hk (runG (us := []) (as := []) F hA hr hb hx I .nil h)
end

/-- a statement, then the rest, joined by a word: the rest is read once -/
def tJoin (t u : TS) : TS := fun D σ H => ∃ M : L2.St → Hp → Prop, t { D with nx := M } σ H ∧ ∀ σ' H', M σ' H' → u D σ' H'
theorem pss_join {X : Cx} {st : Stmt} {more : List Stmt} {t u : TS} (h1 : PS X st t) (h2 : PSs X more u) : PSs X (st :: more) (tJoin t u) := by
  constructor
  intro pins s σ H D I h
  obtain ⟨M, hm, hu⟩ := h
  refine wpAny_execs_cons (thn (h1.run pins s σ H _ I hm) ?_)
  intro fl s1 q
  match fl, q with
  | .next, ⟨σ', H', I', q⟩ => exact h2.run pins s1 σ' H' D I' (hu σ' H' q)
  | .ret v, q => exact q
  | .brk, q => exact q
  | .cont, q => exact q
/-- f(k = v, ..), keywords alone -/
def tKw (m : Nat) (sp : Sp) (gV : List V → List V → List V) (E : XK) (tk : TA) : TE := fun σ H Q => tk σ H fun zs H2 => zs.length = m ∧ sp (gV [] zs) H2 Q E
theorem pe_callK0 {X : Cx} {CX : CXT} {k : Nat} {f : Addr} {fd : FuncData} {ps ks : List Str} {sp : Sp} {E : XK} {x : Str} {p pos : Pos} {kws : List Keyword} {tk : TA}
    {g : List Value → List Value → List Value} {gV : List V → List V → List V}
    (F : FnOk X.prog X.w X.K X.mg X.base CX k f fd ps sp) (hr : Room k X.A) (hg : Gl X x) (hm : X.mg x = some (.ref f)) (hk : PySem.W.keepIn X.K (.ref f) = true)
    (hb : KBn X.K fd ps 0 ks g gV) (hx : Passes CX X E) (hkw : PK X kws tk) (hall : (backToKw pos (keywordEach kws X.env)).all (·.1.isSome) = true := by rfl)
    (hks : (backToKw pos (keywordEach kws X.env)).filterMap (·.1) = ks := by rfl) (hdb : (x == ("__debug__" : Str)) = false := by decide)
    (hpl : ((backTo pos (starEach [] X.env)).any (·.1) || (backToKw pos (keywordEach kws X.env)).any (·.1.isNone)) = false := by rfl) :
    PE X (.Call (.Name x p) [] kws pos) (tKw ks.length sp gV E tk) := by
  constructor
  intro pins s σ H Q I h
  refine wpAny_Call_Name_kw (ld_glob I hg hm ?_ hdb)
  refine PySem.W.callWith_KW0 (h₀ := X.base) I.ok.mod.kin hk hall ?_ hpl
  refine thn (hkw.run pos pins s σ H _ I h) ?_
  rintro ws s2 ⟨zs, H2, I2, rz, len, q⟩
  refine ⟨I2.kIn, ?_⟩
  rw [hks]
  have rel := hb.rel (vs := []) (us := []) .nil rz
  have bind := hb.to s2 [] ws I2.kIn rfl (rz.length.symm.trans len)
  refine wpAny_call (codeAny_mono (F.run X.A X.stack s2 H2 ⟨[], ks.zip ws⟩ _ _ Q E hr I2.env0 bind rel q) ?_)
  intro res s' hq
  match res, hq with
  | .error e, hq => exact hx pins σ H2 s2 e s' I2 hq
  | .ok (.ret u), hq => exact I2.after hq
  | .ok .next, hq => exact False.elim hq
  | .ok .brk, hq => exact False.elim hq
  | .ok .cont, hq => exact False.elim hq
/-- how keywords bind for a def without defaults -/
theorem kb_of {K : PySem.W.Frag} {x qual : Str} {st : Stmt} {f : Addr} {fd : FuncData} {ps ks : List Str} {n : Nat} (F : Fun K x qual st f fd)
    (g : {α : Type} → List α → List α → List α) (rel : ∀ {vs zs : List V} {us ws : List Value}, Vals vs us → Vals zs ws → Vals (g vs zs) (g us ws))
    (h : ∀ (kV doc pm : Value) (an : Option Addr) (cdv ct : Value) (us ws : List Value), us.length = n → ws.length = ks.length →
      bindArgs (PySem.W.fnOf x qual (defArgs st) (defBody st) (defScope st) .none kV doc pm an cdv ct) ⟨us, ks.zip ws⟩ = pure (ps.zip (g us ws))) :
    KBn K fd ps n ks (fun us ws => g us ws) (fun vs zs => g vs zs) := by
  obtain ⟨oc, od, kV, doc, pm, an, cdv, ct, osl, rfl, lk, hcd⟩ := F.ex
  exact ⟨fun s us ws _ h1 h2 => .of_eq (h kV doc pm an cdv ct us ws h1 h2), fun a b => rel a b⟩

/-- a law's call: the script is all that may be tracked -/
theorem lawG {P : Program} {w : World} {K : PySem.W.Frag} {mg mb : Str → Option Value} {CX : CXT} {k : Nat} {fa a : Addr} {fd : FuncData} {x : Str}
    {sp : Sp} {s1 : Shared} {vs : List Value} {ns : List Int} (KX : K.In s1.heap) (hns : s1.heap.Ns mainGlobals mg) (hb : s1.heap.Ns builtinsNs mb)
    (hbb : ∀ y : Str, y ≠ "__name__" → mb y = bootBuiltins y) (hlim : s1.heap.NoLimit) (hg : s1.gens = #[])
    (ha : s1.heap.get? a = some { cls := .type "list", data := .seq vs.toArray }) (hi : IntsAre vs ns) (hl : ns.length ≤ sizeLine) (hr : Room k callerA)
    (F : ∀ base : Heap, K.In base → base.Ns mainGlobals mg → FnG P w K mg base CX k fa fd [x] sp)
    (hbind : ∀ (s : Shared) (u : Value), BindsTo s fd ⟨[u], []⟩ [(x, u)])
    (hsp : ∀ H : Hp, Only H → SqL K H a (ns.map V.int) → sp [.ref a] H (fun v _ => v = .bl true) fun _ _ _ => False)
    (hCX : ∀ H e s', CX [] H s1 (fun _ _ _ => False) e s' → False) :
    codeAny (model P w) callerA (.call (.ref fa) ⟨[.ref a], []⟩)
      (fun r s' => r = .ok (.ret (.bool true)) ∧ OldK s1.heap s'.heap ∧ s'.os = s1.os ∧ AllBare s'.gens) s1 := by
  have inner : ∀ H : Hp, Only H → SqL K H a (ns.map V.int) → HOk P w H s1.heap → (∀ b, H b ≠ none → b = a) → (H a ≠ none → K.lookup a = none) →
      codeAny (model P w) callerA (.call (.ref fa) ⟨[.ref a], []⟩)
        (fun r s' => r = .ok (.ret (.bool true)) ∧ OldK s1.heap s'.heap ∧ s'.os = s1.os ∧ AllBare s'.gens) s1 := by
    intro H hO hS hok only noK
    have nodict : ∀ {b : Addr} {o : Obj} {es : Array DictEntry} {ep : Nat}, s1.heap.get? b = some o → o.data = .dict es ep → H b = none := by
      intro b o es ep e d
      by_cases q : H b = none
      · exact q
      · have eb := only b q
        subst eb
        rw [ha] at e
        cases e
        cases d
    have names : ∀ {b : Addr} {m : Str → Option Value}, s1.heap.Ns b m → (hidT s1.heap H).Ns b m := by
      rintro b m ⟨o, es, ep, e, d, r⟩
      exact ⟨o, es, ep, hidT_get e (nodict e d), d, r⟩
    have kin : K.In (hidT s1.heap H) := by
      intro b o e
      refine hidT_get (KX b o e) ?_
      by_cases q : H b = none
      · exact q
      · have eb := only b q
        subst eb
        rw [noK q] at e
        cases e
    have modul : Mod K mg (hidT s1.heap H) := by
      obtain ⟨mc, l1, l2⟩ := hlim
      exact ⟨kin, names hns, ⟨mb, names hb, hbb⟩, ⟨mc, names l1, l2⟩⟩
    have nil : ∀ b : Addr, ¬ b ∈ ([] : List Addr) := fun b z => by cases z
    have env : Env0 P w K mg (hidT s1.heap H) callerA [] s1 H :=
      ⟨rfl, modul, fun b o e => of_hidT e, Nat.le_of_eq (hidT_size _ _), trivial, fun b z => absurd z (nil b), hok, .of_eq hg⟩
    have ran := (F _ kin (names hns)).go callerA [] s1 H ⟨[.ref a], []⟩ [.ref a] [.ref a] _ _ rfl hr env (hbind s1 (.ref a)) (.cons rfl .nil) (hsp H hO hS)
    refine codeAny_mono ran ?_
    intro res s' h
    match res, h with
    | .error e, h => exact (hCX H e s' h).elim
    | .ok .next, h => exact False.elim h
    | .ok .brk, h => exact False.elim h
    | .ok .cont, h => exact False.elim h
    | .ok (.ret u), h =>
      obtain ⟨v, H', os, bare, un, hok', rv, rfl⟩ := h
      obtain rfl : u = Value.bool true := rv
      refine ⟨rfl, OldK.of_keep fun b o e => ?_, os, bare⟩
      rcases hO b with z | ⟨ob, xs, z⟩
      · exact un.keep b o e z (nil b) (nil b)
      · obtain ⟨e1, _⟩ := hok b _ z
        obtain ⟨e2, _⟩ := hok' b _ (un.frzs b ob _ z)
        rw [e] at e1
        cases e1
        exact e2
  have rv := vals_ints hi
  have len := hi.length
  cases hk : K.lookup a with
  | some o =>
    have e := KX a o hk
    rw [ha] at e
    cases e
    have seen : SqL K (fun _ => none) a (ns.map V.int) :=
      .inr ⟨_, vs.toArray, _, hk, rfl, rfl, rfl, by rw [List.size_toArray, len]; exact hl, by simpa using rv⟩
    exact inner (fun _ => none) (fun _ => .inl rfl) seen (fun b u z => by cases z) (fun b z => absurd rfl z) fun z => absurd rfl z
  | none =>
    have at_a : (if a = a then some (HO.frz { cls := .type "list", data := .seq vs.toArray } (.lst (ns.map V.int))) else none) = some (HO.frz { cls := .type "list", data := .seq vs.toArray } (.lst (ns.map V.int))) := if_pos rfl
    refine inner (fun b => if b = a then some (.frz { cls := .type "list", data := .seq vs.toArray } (.lst (ns.map V.int))) else none) ?_ (.inl (.inr ⟨_, at_a⟩)) ?_ ?_ fun _ => hk
    · intro b
      by_cases hb : b = a
      · exact .inr ⟨_, _, if_pos hb⟩
      · exact .inl (if_neg hb)
    · intro b u z
      have z' : (if b = a then some (HO.frz { cls := .type "list", data := .seq vs.toArray } (.lst (ns.map V.int))) else none) = some u := z
      by_cases hb : b = a
      · rw [if_pos hb] at z'
        cases z'
        subst hb
        exact ⟨ha, by rw [List.length_map]; exact hl, vs, _, rv, ha⟩
      · rw [if_neg hb] at z'
        cases z'
    · intro b z
      by_cases hb : b = a
      · exact hb
      · exact absurd (if_neg hb) z

theorem walkG {l : PySem.W.OpenLaw} {n k : Nat} {q : Program} {loose : List Str} {XP : (Str → Option Value) → Heap → Prop} {YP : World → Heap → Prop}
    {d : DefRec} {K : Params → PySem.W.Frag} {CX : World → CXT} {sp : World → Sp} {x : Str}
    (hn : l.most = some n) (hn2 : n ≤ sizeLine) (hdf : d.params.defaults = []) (hr : Room k callerA) (hY : ∀ (w : World) (h : Heap), YP w h → (K w.params).In h)
    (F : ∀ (w : World) (mg : Str → Option Value) (fa : Addr) (h : Heap), (K w.params).In h → h.Ns mainGlobals mg → mg d.name = some (.ref fa) →
      ∃ fd : FuncData, (∀ (s : Shared) (u : Value), BindsTo s fd ⟨[u], []⟩ [(x, u)]) ∧ ∀ base : Heap, (K w.params).In base → base.Ns mainGlobals mg →
        FnG l.prog w (K w.params) mg base (CX w) k fa fd [x] (sp w))
    (hsp : ∀ (w : World) (H : Hp) (a : Addr) (ns : List Int), ns.length ≤ n → Only H → SqL (K w.params) H a (ns.map V.int) →
      sp w [.ref a] H (fun v _ => v = .bl true) fun _ _ _ => False)
    (hCX : ∀ (w : World) (H : Hp) (s : Shared) (e : Value) (s' : Shared), CX w [] H s (fun _ _ _ => False) e s' → False) :
    PySem.W.WalkO q loose XP YP l.row.toRowW d [] (fun f vs => PySem.call f vs) := by
  refine Att.attach_call hn hdf ?_
  intro w s0 s1 mg mb fa o pm cd doc a vs ns G Y ho hd hcd hmg hobj hints hlen hg
  obtain ⟨fd, hb, hF⟩ := F w mg fa _ (hY w _ Y) G.T.g hmg
  exact lawG (hY w _ Y) G.T.g G.T.b G.T.builtins G.T.nolimit hg hobj hints (Nat.le_trans hlen hn2) hr hF hb
    (fun H hO hS => hsp w H a ns hlen hO hS) fun H e s' => hCX w H s1 e s'
end VG

/-! Curves as they are written: values, a period, a gain; plain Lean. -/
namespace VM
/-- the value at t of the curve written so -/
def cvAt (vs : List Int) (p g t : Int) : Int :=
  if t = 0 then 0 else if t ≤ (vs.length : Int) then vs.getD (t - 1).toNat 0 else
    vs.getD (t - (t - vs.length + p - 1) / p * p - 1).toNat 0 + (t - vs.length + p - 1) / p * g

theorem cvAt_zero {vs : List Int} {p g : Int} : cvAt vs p g 0 = 0 := by simp [cvAt]
theorem cvAt_in {vs : List Int} {p g t : Int} (h : 0 < t) (h1 : t ≤ vs.length) : cvAt vs p g t = vs.getD (t - 1).toNat 0 := by
  unfold cvAt
  rw [if_neg (by omega), if_pos h1]

/-- the rounds: between them t lies in the last period -/
theorem rounds_spec {n p t : Int} (hp : 0 < p) (ht : n < t) :
    0 < (t - n + p - 1) / p ∧ n - p < t - (t - n + p - 1) / p * p ∧ t - (t - n + p - 1) / p * p ≤ n := by
  have e := Int.emod_add_mul_ediv (t - n + p - 1) p
  have l := Int.emod_nonneg (t - n + p - 1) (show p ≠ 0 by omega)
  have u := Int.emod_lt_of_pos (t - n + p - 1) hp
  have c : (t - n + p - 1) / p * p = p * ((t - n + p - 1) / p) := Int.mul_comm _ _
  have q1 : 1 ≤ (t - n + p - 1) / p := by
    have := (Int.le_ediv_iff_mul_le (c := p) hp (a := 1) (b := t - n + p - 1)).mpr (by omega)
    exact this
  exact ⟨by omega, by omega, by omega⟩
theorem rounds_step {n p t : Int} (hp : 0 < p) : (t - p - n + p - 1) / p = (t - n + p - 1) / p - 1 := by
  have : t - p - n + p - 1 = (t - n + p - 1) + (-1) * p := by omega
  rw [this, Int.add_mul_ediv_right _ _ (by omega)]
  omega
/-- behind the values: one period back, and the gain -/
theorem cvAt_back {vs : List Int} {p g t : Int} (hp : 0 < p) (hpn : p ≤ vs.length) (ht : (vs.length : Int) < t) : cvAt vs p g t = cvAt vs p g (t - p) + g := by
  obtain ⟨r1, r2, r3⟩ := rounds_spec hp ht
  have st := rounds_step (n := (vs.length : Int)) (p := p) (t := t) hp
  unfold cvAt
  rw [if_neg (by omega), if_neg (by omega), if_neg (show ¬ t - p = 0 by omega)]
  by_cases h : t - p ≤ (vs.length : Int)
  · rw [if_pos h]
    have r : (t - vs.length + p - 1) / p = 1 := by
      have a : (t - vs.length + p - 1) / p < 2 := Int.ediv_lt_of_lt_mul hp (by omega)
      omega
    rw [r, Int.one_mul, Int.one_mul]
  · rw [if_neg h, st]
    have e : t - p - ((t - vs.length + p - 1) / p - 1) * p - 1 = t - (t - vs.length + p - 1) / p * p - 1 := by
      rw [Int.sub_mul, Int.one_mul]; omega
    rw [e, Int.sub_mul, Int.one_mul]
    omega

/-- a function that repeats behind n: with period p and gain g -/
def Rep (f : Int → Int) (n p g : Int) : Prop := ∀ t, n < t → f t = f (t - p) + g
theorem Rep.cvAt {vs : List Int} {p g : Int} (hp : 0 < p) (hpn : p ≤ vs.length) : Rep (cvAt vs p g) vs.length p g := fun _ ht => cvAt_back hp hpn ht

/-- the steps over d, in one period behind n, are all the first one -/
def stepsEq (f : Int → Int) (n p d : Int) : Bool := (List.range p.toNat).all fun (i : Nat) => decide (f (n + 1 + i) - f (n + 1 + i - d) = f (n + 1) - f (n + 1 - d))
/-- the least period from d on that divides p, and its gain -/
def leastFrom (f : Int → Int) (n p : Int) : Nat → Int → Int × Int
  | 0, _ => (p, f (n + p) - f n)
  | k + 1, d => if p % d = 0 ∧ stepsEq f n p d = true then (d, f (n + 1) - f (n + 1 - d)) else leastFrom f n p k (d + 1)
def leastP (f : Int → Int) (n p : Int) : Int × Int := leastFrom f n p (p - 1).toNat 1
/-- how many values must be written -/
def shr (f : Int → Int) (d s : Int) : Nat → Nat
  | 0 => 0
  | m + 1 => if d < (m + 1 : Nat) ∧ f ((m + 1 : Nat) : Int) = f ((m + 1 : Nat) - d) + s then shr f d s m else m + 1
/-- f's values at 1 to m -/
def vals (f : Int → Int) (m : Nat) : List Int := (List.range m).map fun (i : Nat) => f (i + 1)
theorem vals_length {f : Int → Int} {m : Nat} : (vals f m).length = m := by simp [vals]
theorem vals_getD {f : Int → Int} {m i : Nat} (h : i < m) : (vals f m).getD i 0 = f (i + 1) := by
  unfold vals
  rw [List.getD_eq_getElem?_getD, List.getElem?_map, List.getElem?_range h]
  rfl

theorem stepsEq_at {f : Int → Int} {n p d : Int} (h : stepsEq f n p d = true) {t : Int} (h1 : n < t) (h2 : t ≤ n + p) : f t = f (t - d) + (f (n + 1) - f (n + 1 - d)) := by
  unfold stepsEq at h
  rw [List.all_eq_true] at h
  have := h (t - n - 1).toNat (List.mem_range.mpr (by omega))
  have e : n + 1 + ((t - n - 1).toNat : Int) = t := by omega
  rw [e] at this
  have := of_decide_eq_true this
  omega
/-- one round decides -/
theorem Rep.of_steps {f : Int → Int} {n p g d : Int} (R : Rep f n p g) (hd : 0 < d) (hdp : d ≤ p) (h : stepsEq f n p d = true) : Rep f n d (f (n + 1) - f (n + 1 - d)) := by
  have key : ∀ (k : Nat) (t : Int), n < t → t ≤ n + k → f t = f (t - d) + (f (n + 1) - f (n + 1 - d)) := by
    intro k
    induction k with
    | zero => intro t h1 h2; omega
    | succ k ih =>
      intro t h1 h2
      by_cases c : t ≤ n + p
      · exact stepsEq_at h h1 c
      · have a := R t h1
        have b := R (t - d) (by omega)
        have e := ih (t - p) (by omega) (by omega)
        have z : t - d - p = t - p - d := by omega
        rw [z] at b
        omega
  intro t ht
  exact key (t - n).toNat t ht (by omega)
theorem leastFrom_spec {f : Int → Int} {n p g : Int} (R : Rep f n p g) (hp : 0 < p) : ∀ (k : Nat) (d : Int), 0 < d → d + k = p →
    0 < (leastFrom f n p k d).1 ∧ (leastFrom f n p k d).1 ≤ p ∧ Rep f n (leastFrom f n p k d).1 (leastFrom f n p k d).2
  | 0, d, hd, e => by
    unfold leastFrom
    refine ⟨hp, Int.le_refl _, fun t ht => ?_⟩
    have a := R (n + p) (by omega)
    have z : n + p - p = n := by omega
    rw [z] at a
    have b := R t ht
    show f t = f (t - p) + (f (n + p) - f n)
    omega
  | k + 1, d, hd, e => by
    unfold leastFrom
    by_cases c : p % d = 0 ∧ stepsEq f n p d = true
    · rw [if_pos c]
      exact ⟨hd, by show d ≤ p; omega, R.of_steps hd (by omega) c.2⟩
    · rw [if_neg c]
      exact leastFrom_spec R hp k (d + 1) (by omega) (by omega)
theorem leastP_spec {f : Int → Int} {n p g : Int} (R : Rep f n p g) (hp : 0 < p) : 0 < (leastP f n p).1 ∧ (leastP f n p).1 ≤ p ∧ Rep f n (leastP f n p).1 (leastP f n p).2 :=
  leastFrom_spec R hp _ 1 (by omega) (by omega)
theorem shr_spec {f : Int → Int} {d s : Int} (hd : 0 < d) : ∀ (m : Nat), d ≤ m → Rep f m d s → d ≤ shr f d s m ∧ shr f d s m ≤ m ∧ Rep f (shr f d s m) d s
  | 0, h, _ => by omega
  | m + 1, h, R => by
    unfold shr
    by_cases c : d < (m + 1 : Nat) ∧ f ((m + 1 : Nat) : Int) = f ((m + 1 : Nat) - d) + s
    · rw [if_pos c]
      have R' : Rep f m d s := fun t ht => by
        by_cases e : t = ((m + 1 : Nat) : Int)
        · rw [e]; exact c.2
        · exact R t (by omega)
      obtain ⟨a, b, z⟩ := shr_spec hd m (by omega) R'
      exact ⟨a, by omega, z⟩
    · rw [if_neg c]
      exact ⟨h, Nat.le_refl _, R⟩
/-- what repeats behind m is the curve written by its first m values -/
theorem cvAt_vals {f : Int → Int} {m : Nat} {d s : Int} (hd : 0 < d) (hdm : d ≤ m) (h0 : f 0 = 0) (R : Rep f m d s) : ∀ t, 0 ≤ t → cvAt (vals f m) d s t = f t := by
  have key : ∀ (k : Nat) (t : Int), 0 ≤ t → t ≤ k → cvAt (vals f m) d s t = f t := by
    intro k
    induction k with
    | zero =>
      intro t h1 h2
      have : t = 0 := by omega
      rw [this, cvAt_zero, h0]
    | succ k ih =>
      intro t h1 h2
      by_cases z : t = 0
      · rw [z, cvAt_zero, h0]
      · by_cases c : t ≤ (m : Int)
        · rw [cvAt_in (by omega) (by rw [vals_length]; exact c), vals_getD (by omega)]
          congr 1; omega
        · rw [cvAt_back hd (by rw [vals_length]; exact hdm) (by rw [vals_length]; omega), R t (by omega), ih (t - d) (by omega) (by omega)]
  intro t ht
  exact key t.toNat t ht (by omega)
/-- the form: period, gain, values -/
def formP (vs : List Int) (p g : Int) : Int × Int := leastP (cvAt vs p g) vs.length p
def formM (vs : List Int) (p g : Int) : Nat := shr (cvAt vs p g) (formP vs p g).1 (formP vs p g).2 vs.length
def formV (vs : List Int) (p g : Int) : List Int := vals (cvAt vs p g) (formM vs p g)
theorem form_spec {vs : List Int} {p g : Int} (hp : 0 < p) (hpn : p ≤ vs.length) :
    0 < (formP vs p g).1 ∧ (formP vs p g).1 ≤ p ∧ (formP vs p g).1 ≤ (formV vs p g).length ∧ (formV vs p g).length ≤ vs.length ∧
      ∀ t, 0 ≤ t → cvAt (formV vs p g) (formP vs p g).1 (formP vs p g).2 t = cvAt vs p g t := by
  obtain ⟨a, b, R⟩ := leastP_spec (Rep.cvAt (g := g) hp hpn) hp
  obtain ⟨c, d, R'⟩ := shr_spec a vs.length (show (formP vs p g).1 ≤ _ from Int.le_trans b hpn) R
  refine ⟨a, b, ?_, ?_, ?_⟩
  · unfold formV; rw [vals_length]; exact c
  · unfold formV; rw [vals_length]; exact d
  · exact cvAt_vals a c cvAt_zero R'
end VM

/-! Records: sums of windows; plain Lean. -/
namespace VM
/-- the units ahead of tick i -/
def pre (us : List Int) (i : Int) : Int := (us.take i.toNat).sum
def win (us : List Int) (s k : Int) : Int := pre us (s + k) - pre us s
/-- the sum of a slice -/
theorem sum_cut (us : List Int) (s k : Nat) : ((us.drop s).take k).sum = win us s k := by
  unfold win pre
  have e : (((s : Int) + k).toNat) = s + k := by omega
  have e2 : ((s : Int).toNat) = s := by omega
  rw [e, e2, List.take_add, List.sum_append]
  omega
theorem pre_zero (us : List Int) : pre us 0 = 0 := by simp [pre]
theorem pre_all (us : List Int) : pre us us.length = us.sum := by
  unfold pre
  rw [show ((us.length : Nat) : Int).toNat = us.length by omega, List.take_length]
theorem pre_step {us : List Int} {i : Nat} (h : i < us.length) : pre us ((i : Int) + 1) = pre us i + us.getD i 0 := by
  unfold pre
  rw [show ((i : Int) + 1).toNat = i + 1 by omega, show ((i : Int)).toNat = i by omega, List.take_add_one, List.sum_append]
  rw [List.getD_eq_getElem?_getD, List.getElem?_eq_getElem h]
  simp
/-- the first i from a on, of k many, of which P -/
def firstN (p : Nat → Bool) : Nat → Nat → Option Nat
  | 0, _ => none
  | k + 1, i => if p i = true then some i else firstN p k (i + 1)
/-- windows by their length: the first with more than f allows -/
def brk (f : Int → Int) (us : List Int) : Nat → Nat → Option (Int × Int × Int)
  | 0, _ => none
  | k + 1, len => match firstN (fun s => decide (f len < win us s len)) (us.length + 1 - len) 0 with
    | some s => some (len, s, win us s len - f len)
    | none => brk f us k (len + 1)
def breachM (f : Int → Int) (us : List Int) : Option (Int × Int × Int) := brk f us us.length 1
theorem brk_congr {f g : Int → Int} {us : List Int} : ∀ (k len : Nat), (∀ t : Int, (len : Int) ≤ t → t < len + k → f t = g t) → brk f us k len = brk g us k len
  | 0, _, _ => rfl
  | k + 1, len, h => by
    unfold brk
    rw [h len (by omega) (by omega), brk_congr k (len + 1) fun t h1 h2 => h t (by omega) (by omega)]
theorem breachM_congr {f g : Int → Int} {us : List Int} (h : ∀ t : Int, 1 ≤ t → t ≤ us.length → f t = g t) : breachM f us = breachM g us :=
  brk_congr _ _ fun t h1 h2 => h t (by omega) (by omega)
def IsMax (l : List Int) (m : Int) : Prop := m ∈ l ∧ ∀ y ∈ l, y ≤ m
theorem IsMax.eq {l : List Int} {m n : Int} (a : IsMax l m) (b : IsMax l n) : m = n := by
  have h1 := a.2 n b.1
  have h2 := b.2 m a.1
  omega
end VM

/-! Records that enter as early as a curve allows; plain Lean. -/
namespace VM
theorem snoc_ind {P : List Int → Prop} (h0 : P []) (h1 : ∀ l x, P l → P (l ++ [x])) (l : List Int) : P l := by
  have a : ∀ r : List Int, P r.reverse := fun r => by
    induction r with
    | nil => exact h0
    | cons a r ih => rw [List.reverse_cons]; exact h1 _ _ ih
  have b := a l.reverse
  rwa [List.reverse_reverse] at b
/-- the last k units -/
def tl (us : List Int) (k : Nat) : Int := win us ((us.length : Int) - k) k
theorem tl_zero {us : List Int} : tl us 0 = 0 := by
  unfold tl win
  rw [show (us.length : Int) - ((0 : Nat) : Int) + ((0 : Nat) : Int) = (us.length : Int) - ((0 : Nat) : Int) by omega]
  omega
theorem pre_push {e : List Int} {x i : Int} (h : i ≤ e.length) : pre (e ++ [x]) i = pre e i := by
  unfold pre
  rw [List.take_append_of_le_length (by omega)]
theorem pre_last {e : List Int} {x i : Int} (h : i = (e.length : Int) + 1) : pre (e ++ [x]) i = pre e e.length + x := by
  unfold pre
  rw [List.take_of_length_le (by rw [List.length_append, List.length_singleton]; omega), List.take_of_length_le (by omega), List.sum_append]
  simp
theorem tl_push {e : List Int} {x : Int} {k : Nat} (h : k ≤ e.length) : tl (e ++ [x]) (k + 1) = tl e k + x := by
  unfold tl win
  rw [List.length_append, List.length_singleton, pre_last (by omega), pre_push (by omega)]
  rw [show ((e.length + 1 : Nat) : Int) - ((k + 1 : Nat) : Int) = (e.length : Int) - k by omega, show (e.length : Int) - (k : Int) + (k : Int) = e.length by omega]
  omega
/-- one tick further back -/
theorem tl_step {us : List Int} {k : Nat} (h : k < us.length) : tl us (k + 1) = tl us k + us.getD (us.length - 1 - k) 0 := by
  unfold tl win
  rw [show (us.length : Int) - ((k + 1 : Nat) : Int) + ((k + 1 : Nat) : Int) = us.length by omega, show (us.length : Int) - ((k : Nat) : Int) + ((k : Nat) : Int) = us.length by omega]
  have e := pre_step (us := us) (i := us.length - 1 - k) (by omega)
  rw [show ((us.length - 1 - k : Nat) : Int) + 1 = (us.length : Int) - (k : Nat) by omega] at e
  rw [show (us.length : Int) - ((k + 1 : Nat) : Int) = ((us.length - 1 - k : Nat) : Int) by omega]
  omega
/-- how many may enter behind us, as the windows up to k + 1 tell -/
def freeK (f : Int → Int) (us : List Int) : Nat → Int
  | 0 => f 1
  | k + 1 => min (freeK f us k) (f ((k : Int) + 2) - tl us (k + 1))
def freeM (f : Int → Int) (us : List Int) : Int := freeK f us us.length
theorem le_freeK {f : Int → Int} {us : List Int} {c : Int} : ∀ {n : Nat}, c ≤ freeK f us n ↔ ∀ k : Nat, k ≤ n → tl us k + c ≤ f ((k : Int) + 1)
  | 0 => by
    constructor
    · intro h k hk
      have : k = 0 := by omega
      subst this
      rw [tl_zero]
      have : c ≤ f 1 := h
      show 0 + c ≤ f 1
      omega
    · intro h
      have := h 0 (Nat.le_refl _)
      rw [tl_zero] at this
      have e : 0 + c ≤ f 1 := this
      show c ≤ f 1
      omega
  | n + 1 => by
    have ih := le_freeK (f := f) (us := us) (c := c) (n := n)
    constructor
    · intro h k hk
      unfold freeK at h
      by_cases z : k = n + 1
      · subst z
        rw [show ((n + 1 : Nat) : Int) + 1 = (n : Int) + 2 by omega]
        omega
      · exact ih.mp (by omega) k (by omega)
    · intro h
      have a := ih.mpr fun k hk => h k (by omega)
      have b := h (n + 1) (Nat.le_refl _)
      rw [show ((n + 1 : Nat) : Int) + 1 = (n : Int) + 2 by omega] at b
      unfold freeK
      omega
theorem le_free {f : Int → Int} {us : List Int} {c : Int} : c ≤ freeM f us ↔ ∀ k : Nat, k ≤ us.length → tl us k + c ≤ f ((k : Int) + 1) := le_freeK
/-- no window has too many -/
def Kept (f : Int → Int) (us : List Int) : Prop := ∀ s k : Nat, 1 ≤ k → s + k ≤ us.length → win us s k ≤ f k
theorem Kept.push {f : Int → Int} {e : List Int} {x : Int} (h : Kept f e) (hx : x ≤ freeM f e) : Kept f (e ++ [x]) := by
  intro s k h1 h2
  rw [List.length_append, List.length_singleton] at h2
  by_cases c : s + k ≤ e.length
  · have := h s k h1 c
    unfold win at this ⊢
    rw [pre_push (by omega), pre_push (by omega)]
    exact this
  · have a := le_free.mp hx (k - 1) (by omega)
    have b := tl_push (e := e) (x := x) (k := k - 1) (by omega)
    rw [show k - 1 + 1 = k by omega] at b
    unfold tl at b
    rw [List.length_append, List.length_singleton, show ((e.length + 1 : Nat) : Int) - (k : Int) = (s : Int) by omega] at b
    rw [show ((k - 1 : Nat) : Int) + 1 = (k : Int) by omega] at a
    rw [b]
    exact a
theorem Kept.front {f : Int → Int} {e : List Int} {x : Int} (h : Kept f (e ++ [x])) : Kept f e := by
  intro s k h1 h2
  have a := h s k h1 (by rw [List.length_append, List.length_singleton]; omega)
  unfold win at a ⊢
  rw [pre_push (by omega), pre_push (by omega)] at a
  exact a
theorem Kept.free {f : Int → Int} {e : List Int} {x : Int} (h : Kept f (e ++ [x])) : x ≤ freeM f e := by
  refine le_free.mpr fun k hk => ?_
  have a := h (e.length - k) (k + 1) (by omega) (by rw [List.length_append, List.length_singleton]; omega)
  have b := tl_push (e := e) (x := x) (k := k) hk
  unfold tl at b
  rw [List.length_append, List.length_singleton, show ((e.length + 1 : Nat) : Int) - ((k + 1 : Nat) : Int) = ((e.length - k : Nat) : Int) by omega] at b
  rw [b] at a
  have z : ((k + 1 : Nat) : Int) = (k : Int) + 1 := by omega
  rw [z] at a
  exact a
theorem Kept.nil {f : Int → Int} : Kept f [] := fun s k h1 h2 => by
  have : s + k ≤ 0 := h2
  omega
theorem firstN_none {p : Nat → Bool} : ∀ {k i : Nat}, firstN p k i = none ↔ ∀ j, i ≤ j → j < i + k → p j = false
  | 0, i => ⟨fun _ => fun j a b => absurd b (by omega), fun _ => rfl⟩
  | k + 1, i => by
    have ih := firstN_none (p := p) (k := k) (i := i + 1)
    unfold firstN
    by_cases c : p i = true
    · rw [if_pos c]
      refine ⟨fun h => (by cases h), fun h => ?_⟩
      rw [h i (Nat.le_refl _) (by omega)] at c
      cases c
    · rw [if_neg c, ih]
      refine ⟨fun h j a b => ?_, fun h j a b => h j (by omega) (by omega)⟩
      by_cases z : j = i
      · rw [z]; simpa using c
      · exact h j (by omega) (by omega)
theorem brk_none {f : Int → Int} {us : List Int} : ∀ {k len : Nat}, brk f us k len = none ↔ ∀ t : Nat, len ≤ t → t < len + k → ∀ s : Nat, s < us.length + 1 - t → win us s t ≤ f t
  | 0, len => ⟨fun _ => fun t a b => absurd b (by omega), fun _ => rfl⟩
  | k + 1, len => by
    have ih := brk_none (f := f) (us := us) (k := k) (len := len + 1)
    have fn := firstN_none (p := fun s => decide (f len < win us s len)) (k := us.length + 1 - len) (i := 0)
    unfold brk
    cases hh : firstN (fun s => decide (f len < win us s len)) (us.length + 1 - len) 0 with
    | some s =>
      refine ⟨fun h => (by cases h), fun h => ?_⟩
      have : firstN (fun s => decide (f len < win us s len)) (us.length + 1 - len) 0 = none := fn.mpr fun j _ b => by
        have := h len (Nat.le_refl _) (by omega) j (by omega)
        exact decide_eq_false (by omega)
      rw [hh] at this; cases this
    | none =>
      show brk f us k (len + 1) = none ↔ _
      rw [ih]
      refine ⟨fun h t a b s hs => ?_, fun h t a b s hs => h t (by omega) (by omega) s hs⟩
      by_cases z : t = len
      · subst z
        have := fn.mp hh s (Nat.zero_le _) (by omega)
        have := of_decide_eq_false this
        omega
      · exact h t (by omega) (by omega) s hs
theorem kept_iff {f : Int → Int} {us : List Int} : breachM f us = none ↔ Kept f us := by
  unfold breachM
  rw [brk_none]
  exact ⟨fun h s k h1 h2 => h k h1 (by omega) s (by omega), fun h t a b s hs => h s t a (by omega)⟩
/-! ### shaped -/
def shS (f : Int → Int) (st : List Int × Int) (u : Int) : List Int × Int := (st.1 ++ [min (st.2 + u) (freeM f st.1)], st.2 + u - min (st.2 + u) (freeM f st.1))
def shG (f : Int → Int) (us : List Int) : List Int × Int := us.foldl (shS f) ([], 0)
def shapedM (f : Int → Int) (us : List Int) : List Int := (shG f us).1
theorem shG_push {f : Int → Int} {us : List Int} {u : Int} : shG f (us ++ [u]) = shS f (shG f us) u := by
  unfold shG; rw [List.foldl_append]; rfl
theorem shG_take {f : Int → Int} {us : List Int} {i : Nat} (h : i < us.length) : shG f (us.take (i + 1)) = shS f (shG f (us.take i)) (us.getD i 0) := by
  rw [← shG_push, List.take_add_one, List.getElem?_eq_getElem h, List.getD_eq_getElem?_getD, List.getElem?_eq_getElem h]
  rfl
theorem shG_length {f : Int → Int} (us : List Int) : (shG f us).1.length = us.length := by
  refine snoc_ind (P := fun us => (shG f us).1.length = us.length) rfl (fun l x ih => ?_) us
  show (shG f (l ++ [x])).1.length = (l ++ [x]).length
  rw [shG_push]
  unfold shS
  rw [List.length_append, List.length_append, ih]
  rfl
theorem shaped_length {f : Int → Int} (us : List Int) : (shapedM f us).length = us.length := shG_length us
theorem shaped_kept {f : Int → Int} (us : List Int) : Kept f (shapedM f us) := by
  refine snoc_ind (P := fun us => Kept f (shapedM f us)) Kept.nil (fun l x ih => ?_) us
  show Kept f (shG f (l ++ [x])).1
  rw [shG_push]
  exact Kept.push ih (by show min _ _ ≤ _; unfold shapedM at *; omega)
theorem kept_shaped {f : Int → Int} {us : List Int} (h : Kept f us) : shG f us = (us, 0) := by
  revert h
  refine snoc_ind (P := fun us => Kept f us → shG f us = (us, 0)) (fun _ => rfl) (fun l x ih h => ?_) us
  have a := h.free
  rw [shG_push, ih h.front]
  unfold shS
  simp only
  rw [show min (0 + x) (freeM f l) = x by omega]
  congr 1
  omega
/-- rising values from 1 on -/
structure Up (f : Int → Int) : Prop where
  one : 0 ≤ f 1
  up : ∀ k : Nat, 1 ≤ k → f k ≤ f ((k : Int) + 1)
theorem Up.free {f : Int → Int} (U : Up f) {e : List Int} (h : Kept f e) : 0 ≤ freeM f e := by
  refine le_free.mpr fun k hk => ?_
  by_cases z : k = 0
  · subst z
    rw [tl_zero]
    have := U.one
    show 0 + 0 ≤ f 1
    omega
  · have a := h (e.length - k) k (by omega) (by omega)
    have b := U.up k (by omega)
    unfold tl
    rw [show (e.length : Int) - (k : Int) = ((e.length - k : Nat) : Int) by omega]
    omega
theorem sum_snoc {l : List Int} {x : Int} : (l ++ [x]).sum = l.sum + x := by rw [List.sum_append]; simp
/-- what entered and waits: counts, together what came -/
theorem shG_bound {f : Int → Int} (U : Up f) {us : List Int} (h : ∀ u ∈ us, 0 ≤ u) : 0 ≤ (shG f us).2 ∧ (shG f us).1.sum + (shG f us).2 = us.sum ∧ ∀ x ∈ (shG f us).1, 0 ≤ x ∧ x ≤ us.sum := by
  revert h
  refine snoc_ind (P := fun us => (∀ u ∈ us, 0 ≤ u) → 0 ≤ (shG f us).2 ∧ (shG f us).1.sum + (shG f us).2 = us.sum ∧ ∀ x ∈ (shG f us).1, 0 ≤ x ∧ x ≤ us.sum) (fun _ => ⟨Int.le_refl _, rfl, fun x hx => by cases hx⟩) (fun l u ih h => ?_) us
  have hu := h u (by simp)
  obtain ⟨a, b, c⟩ := ih fun y hy => h y (List.mem_append_left _ hy)
  have fr := U.free (shaped_kept (f := f) l)
  unfold shapedM at fr
  have ps : 0 ≤ (shG f l).1.sum := by
    have : ∀ r : List Int, (∀ x ∈ r, 0 ≤ x) → 0 ≤ r.sum := fun r => by
      induction r with
      | nil => intro _; decide
      | cons z r ih => intro q; rw [List.sum_cons]; have := q z List.mem_cons_self; have := ih fun y hy => q y (List.mem_cons_of_mem _ hy); omega
    exact this _ fun x hx => (c x hx).1
  rw [shG_push, sum_snoc]
  unfold shS
  simp only [sum_snoc]
  refine ⟨by omega, by omega, fun x hx => ?_⟩
  rcases List.mem_append.mp hx with q | q
  · have := c x q; omega
  · cases List.mem_singleton.mp q
    omega
theorem shaped_front {f : Int → Int} {us vs : List Int} : (shapedM f (us ++ vs)).take us.length = shapedM f us := by
  refine snoc_ind (P := fun vs => (shapedM f (us ++ vs)).take us.length = shapedM f us) ?_ (fun l x ih => ?_) vs
  · show (shapedM f (us ++ [])).take us.length = shapedM f us
    rw [List.append_nil, ← shaped_length (f := f) us, List.take_length]
  · show (shapedM f (us ++ (l ++ [x]))).take us.length = shapedM f us
    rw [← List.append_assoc]
    unfold shapedM at ih ⊢
    rw [shG_push]
    unfold shS
    rw [List.take_append_of_le_length (by rw [shG_length, List.length_append]; omega)]
    exact ih
theorem freeK_congr {f g : Int → Int} {e : List Int} : ∀ {n : Nat}, (∀ t : Int, 1 ≤ t → t ≤ (n : Int) + 1 → f t = g t) → freeK f e n = freeK g e n
  | 0, h => h 1 (by omega) (by omega)
  | n + 1, h => by
    unfold freeK
    rw [freeK_congr (n := n) fun t a b => h t a (by omega), h ((n : Int) + 2) (by omega) (by omega)]
theorem shG_congr {f g : Int → Int} {us : List Int} (h : ∀ t : Int, 1 ≤ t → t ≤ us.length → f t = g t) : shG f us = shG g us := by
  revert h
  refine snoc_ind (P := fun us => (∀ t : Int, 1 ≤ t → t ≤ us.length → f t = g t) → shG f us = shG g us) (fun _ => rfl) (fun l x ih h => ?_) us
  rw [List.length_append, List.length_singleton] at h
  rw [shG_push, shG_push, ih fun t a b => h t a (by omega)]
  unfold shS freeM
  rw [freeK_congr fun t a b => h t a (by rw [shG_length] at b; omega)]
/-- a curve that rises where it is written rises -/
theorem up_cv {vs : List Int} {p g : Int} (hp : 0 < p) (hpn : p ≤ vs.length) (h0 : 0 ≤ vs.getD 0 0) (up : ∀ i, i + 1 < vs.length → vs.getD i 0 ≤ vs.getD (i + 1) 0) (last : vs.getD (vs.length - 1) 0 ≤ vs.getD (vs.length - p.toNat) 0 + g) : Up (cvAt vs p g) := by
  refine ⟨by rw [cvAt_in (by decide) (by omega)]; exact h0, fun k => ?_⟩
  induction k using Nat.strongRecOn with
  | ind k ih =>
    intro h1
    by_cases c : k < vs.length
    · rw [cvAt_in (by omega) (by omega), cvAt_in (by omega) (by omega), show ((k : Int) - 1).toNat = k - 1 by omega, show ((k : Int) + 1 - 1).toNat = k - 1 + 1 by omega]
      exact up (k - 1) (by omega)
    · by_cases d : k = vs.length
      · rw [cvAt_back (t := (k : Int) + 1) hp hpn (by omega), cvAt_in (by omega) (by omega), cvAt_in (by omega) (by omega), show ((k : Int) - 1).toNat = vs.length - 1 by omega, show ((k : Int) + 1 - p - 1).toNat = vs.length - p.toNat by omega]
        exact last
      · rw [cvAt_back (t := (k : Int) + 1) hp hpn (by omega), cvAt_back (t := (k : Int)) hp hpn (by omega)]
        have := ih (k - p.toNat) (by omega) (by omega)
        rw [show ((k - p.toNat : Nat) : Int) = (k : Int) - p by omega] at this
        rw [show (k : Int) + 1 - p = (k : Int) - p + 1 by omega]
        omega
/-- no pair of lengths up to n shows a break -/
def goodB (f : Int → Int) (n : Nat) : Bool := (List.range n).all fun a => (List.range (a + 1)).all fun b => decide (f ((a : Int) + 1 + ((b : Int) + 1)) ≤ f ((a : Int) + 1) + f ((b : Int) + 1))
theorem good_at {f : Int → Int} {n : Nat} (h : goodB f n = true) {a b : Int} (h1 : 1 ≤ b) (h2 : b ≤ a) (h3 : a ≤ n) : f (a + b) ≤ f a + f b := by
  unfold goodB at h
  rw [List.all_eq_true] at h
  have x := h (a - 1).toNat (List.mem_range.mpr (by omega))
  rw [List.all_eq_true] at x
  have y := of_decide_eq_true (x (b - 1).toNat (List.mem_range.mpr (by omega)))
  rw [show (((a - 1).toNat : Nat) : Int) + 1 = a by omega, show (((b - 1).toNat : Nat) : Int) + 1 = b by omega] at y
  exact y
end VM

/-! shaped is the greatest; curves that are good at all lengths; greedy records; plain Lean. -/
namespace VM
/-- no unit of vs enters ahead of its coming in us -/
def Behind (us vs : List Int) : Prop := vs.length = us.length ∧ ∀ i : Nat, i ≤ us.length → pre vs i ≤ pre us i
theorem pre_take {us : List Int} {i : Nat} : pre us i = (us.take i).sum := by
  unfold pre; rw [Int.toNat_natCast]
theorem pre_len {us : List Int} {i : Int} (h : (us.length : Int) ≤ i) : pre us i = us.sum := by
  unfold pre; rw [List.take_of_length_le (by omega)]
theorem tl_pre {us : List Int} {k : Nat} (h : k ≤ us.length) : tl us k = us.sum - pre us ((us.length : Int) - k) := by
  unfold tl win
  rw [show (us.length : Int) - (k : Int) + (k : Int) = us.length by omega, pre_all]
/-- free is one of the windows -/
theorem freeK_some {f : Int → Int} {us : List Int} : ∀ n : Nat, ∃ k : Nat, k ≤ n ∧ freeK f us n = f ((k : Int) + 1) - tl us k
  | 0 => ⟨0, Nat.le_refl _, by rw [tl_zero]; show f 1 = f ((0 : Int) + 1) - 0; rw [Int.zero_add]; omega⟩
  | n + 1 => by
    obtain ⟨k, hk, e⟩ := freeK_some (f := f) (us := us) n
    unfold freeK
    by_cases c : freeK f us n ≤ f ((n : Int) + 2) - tl us (n + 1)
    · exact ⟨k, by omega, by omega⟩
    · refine ⟨n + 1, Nat.le_refl _, ?_⟩
      rw [show ((n + 1 : Nat) : Int) + 1 = (n : Int) + 2 by omega]
      omega
theorem shG_front {f : Int → Int} {us : List Int} {i : Nat} (h : i ≤ us.length) : (shG f (us.take i)).1 = (shapedM f us).take i := by
  have e : us.take i ++ us.drop i = us := List.take_append_drop i us
  have s := shaped_front (f := f) (us := us.take i) (vs := us.drop i)
  rw [e, List.length_take, Nat.min_eq_left h] at s
  exact s.symm
theorem shG_sum {f : Int → Int} (us : List Int) : (shG f us).1.sum + (shG f us).2 = us.sum := by
  refine snoc_ind (P := fun us => (shG f us).1.sum + (shG f us).2 = us.sum) rfl (fun l u ih => ?_) us
  show (shG f (l ++ [u])).1.sum + (shG f (l ++ [u])).2 = (l ++ [u]).sum
  rw [shG_push, sum_snoc]
  unfold shS
  simp only [sum_snoc]
  omega
/-- the units so far of the shaped record -/
theorem shaped_pre {f : Int → Int} {us : List Int} {i : Nat} (h : i ≤ us.length) : pre (shapedM f us) i = (shG f (us.take i)).1.sum := by
  rw [shG_front h, pre_take]
theorem shaped_greatest {f : Int → Int} {us vs : List Int} (B : Behind us vs) (K : Kept f vs) : ∀ i : Nat, i ≤ us.length → pre vs i ≤ pre (shapedM f us) i := by
  intro i
  induction i using Nat.strongRecOn with
  | ind i ih =>
    intro hi
    match i with
    | 0 => rw [show ((0 : Nat) : Int) = 0 from rfl, pre_zero, pre_zero]; exact Int.le_refl _
    | i + 1 =>
      have st := shG_take (f := f) (us := us) (i := i) (by omega)
      have sm := shG_sum (f := f) (us.take i)
      have p1 := shaped_pre (f := f) (us := us) (i := i + 1) hi
      have p0 := shaped_pre (f := f) (us := us) (i := i) (by omega)
      have lg : (shG f (us.take i)).1.length = i := by rw [shG_length, List.length_take]; omega
      rw [p1, st]
      have us1 := pre_step (us := us) (i := i) (by omega)
      have ut : (us.take i).sum = pre us i := pre_take.symm
      have bi := B.2 (i + 1) hi
      rw [show ((i + 1 : Nat) : Int) = (i : Int) + 1 by omega] at bi ⊢
      unfold shS
      simp only [sum_snoc]
      by_cases c : (shG f (us.take i)).2 + us.getD i 0 ≤ freeM f (shG f (us.take i)).1
      · omega
      · obtain ⟨k, hk, e⟩ := freeK_some (f := f) (us := (shG f (us.take i)).1) (shG f (us.take i)).1.length
        rw [lg] at hk
        have tp := tl_pre (us := (shG f (us.take i)).1) (k := k) (by omega)
        rw [lg] at tp
        have pk : pre (shG f (us.take i)).1 ((i : Int) - k) = pre (shapedM f us) ((i - k : Nat) : Int) := by
          rw [shG_front (by omega), show (i : Int) - (k : Int) = ((i - k : Nat) : Int) by omega, pre_take, pre_take, List.take_take, Nat.min_eq_left (by omega)]
        have q := ih (i - k) (by omega) (by omega)
        have w := K (i - k) (k + 1) (by omega) (by rw [B.1]; omega)
        unfold win at w
        rw [show ((i - k : Nat) : Int) + ((k + 1 : Nat) : Int) = (i : Int) + 1 by omega, show ((k + 1 : Nat) : Int) = (k : Int) + 1 by omega] at w
        have fm : freeM f (shG f (us.take i)).1 = f ((k : Int) + 1) - tl (shG f (us.take i)).1 k := e
        omega
/-- the shaped record is behind what comes -/
theorem shaped_behind {f : Int → Int} {us : List Int} (U : Up f) (h : ∀ u ∈ us, 0 ≤ u) : Behind us (shapedM f us) := by
  refine ⟨shaped_length us, fun i hi => ?_⟩
  have a := shG_bound (f := f) U (us := us.take i) fun u hu => h u (List.mem_of_mem_take hu)
  rw [shaped_pre hi, pre_take]
  omega
/-- good at the lengths of the form: good at all lengths -/
theorem good_all {f : Int → Int} {n p g : Int} (R : Rep f n p g) (hp : 0 < p) (hpn : p ≤ n) (h0 : f 0 = 0) (G : ∀ a b : Int, 1 ≤ b → b ≤ a → a ≤ n → f (a + b) ≤ f a + f b) : ∀ a b : Int, 0 ≤ a → 0 ≤ b → f (a + b) ≤ f a + f b := by
  have half : ∀ (k : Nat) (a b : Int), 0 ≤ b → b ≤ a → a + b = k → f (a + b) ≤ f a + f b := by
    intro k
    induction k using Nat.strongRecOn with
    | ind k ih =>
      intro a b hb hba e
      by_cases z : b = 0
      · subst z; rw [h0, Int.add_zero]; omega
      · by_cases c : a ≤ n
        · exact G a b (by omega) hba c
        · have r1 := R a (by omega)
          have r2 := R (a + b) (by omega)
          rw [show a + b - p = a - p + b by omega] at r2
          have : f (a - p + b) ≤ f (a - p) + f b := by
            by_cases d : b ≤ a - p
            · exact ih (a - p + b).toNat (by omega) (a - p) b hb d (by omega)
            · have := ih (a - p + b).toNat (by omega) b (a - p) (by omega) (by omega) (by omega)
              rw [show b + (a - p) = a - p + b by omega] at this
              omega
          omega
  intro a b ha hb
  by_cases c : b ≤ a
  · exact half (a + b).toNat a b hb c (by omega)
  · have := half (a + b).toNat b a ha (by omega) (by omega)
    rw [show b + a = a + b by omega] at this
    omega
/-- the greedy record of n ticks -/
def greedyM (f : Int → Int) (n : Nat) : List Int := (List.range n).map fun t : Nat => f ((t : Int) + 1) - f t
theorem greedy_length {f : Int → Int} {n : Nat} : (greedyM f n).length = n := by simp [greedyM]
theorem greedy_succ {f : Int → Int} {n : Nat} : greedyM f (n + 1) = greedyM f n ++ [f ((n : Int) + 1) - f n] := by
  unfold greedyM; rw [List.range_succ, List.map_append]; rfl
theorem greedy_sum {f : Int → Int} (h0 : f 0 = 0) : ∀ n : Nat, (greedyM f n).sum = f n
  | 0 => by show (0 : Int) = f 0; omega
  | n + 1 => by
    rw [greedy_succ, sum_snoc, greedy_sum h0 n, show ((n + 1 : Nat) : Int) = (n : Int) + 1 by omega]
    omega
theorem greedy_take {f : Int → Int} {n i : Nat} (h : i ≤ n) : (greedyM f n).take i = greedyM f i := by
  unfold greedyM; rw [← List.map_take, List.take_range, Nat.min_eq_left h]
theorem greedy_pre {f : Int → Int} (h0 : f 0 = 0) {n i : Nat} (h : i ≤ n) : pre (greedyM f n) i = f i := by
  rw [pre_take, greedy_take h, greedy_sum h0]
theorem greedy_kept {f : Int → Int} (h0 : f 0 = 0) (G : ∀ a b : Int, 0 ≤ a → 0 ≤ b → f (a + b) ≤ f a + f b) (n : Nat) : Kept f (greedyM f n) := by
  intro s k h1 h2
  rw [greedy_length] at h2
  unfold win
  rw [show (s : Int) + (k : Int) = ((s + k : Nat) : Int) by omega, greedy_pre h0 h2, greedy_pre h0 (by omega)]
  have := G s k (by omega) (by omega)
  rw [show ((s + k : Nat) : Int) = (s : Int) + (k : Int) by omega]
  omega
/-- ahead of every record that keeps the curve -/
theorem greedy_ahead {f : Int → Int} (h0 : f 0 = 0) {vs : List Int} (K : Kept f vs) {n i : Nat} (hn : vs.length = n) (hi : i ≤ n) : pre vs i ≤ pre (greedyM f n) i := by
  rw [greedy_pre h0 hi]
  by_cases z : i = 0
  · subst z
    rw [show ((0 : Nat) : Int) = 0 from rfl, pre_zero, h0]
    exact Int.le_refl _
  · have := K 0 i (by omega) (by omega)
    unfold win at this
    rw [show ((0 : Nat) : Int) + (i : Int) = i by omega, show ((0 : Nat) : Int) = 0 from rfl, pre_zero] at this
    omega
end VM

/-! What repr may be asked of: shown, not deep, not long. -/
namespace VR
open PySem
structure Sz (k L : Nat) (d : PyData) : Prop where
  sh : d.showable = true
  dp : d.depth ≤ k
  ln : d.shown.length ≤ L
theorem Sz.mono {k L k' L' : Nat} {d : PyData} (h : Sz k L d) (a : k ≤ k') (b : L ≤ L') : Sz k' L' d := ⟨h.sh, Nat.le_trans h.dp a, Nat.le_trans h.ln b⟩
theorem Sz.none : Sz 0 5 .none := ⟨rfl, Nat.zero_le _, by decide⟩
theorem Sz.bool (b : Bool) : Sz 0 5 (.bool b) := ⟨rfl, Nat.zero_le _, by cases b <;> decide⟩
theorem log_small {n : Nat} (h : n < 10 ^ 100) : n.log2 < 1920 := by
  by_cases z : n = 0
  · subst z; decide
  · exact (Nat.log2_lt z).mpr (Nat.lt_trans h (by decide +kernel))
theorem Sz.int {i : Int} (h : i.natAbs < 10 ^ 100) : Sz 0 101 (.int i) := by
  refine ⟨by simp only [PyData.showable]; exact decide_eq_true (log_small h), Nat.zero_le _, ?_⟩
  have e := int_text_length_le10 (k := 100) (by decide) h
  show (Str.ofString (toString i)).length ≤ 101
  rw [ofString_length]; exact e
theorem all_show {k L : Nat} : ∀ {ds : List PyData}, (∀ d ∈ ds, Sz k L d) → PyData.showableAll ds = true
  | [], _ => rfl
  | d :: ds, h => by
    simp only [PyData.showableAll]
    rw [(h d List.mem_cons_self).sh, all_show fun e he => h e (List.mem_cons_of_mem _ he)]
    rfl
theorem all_depth {k L : Nat} : ∀ {ds : List PyData}, (∀ d ∈ ds, Sz k L d) → PyData.depthAll ds ≤ k
  | [], _ => Nat.zero_le _
  | d :: ds, h => by
    simp only [PyData.depthAll]
    exact Nat.max_le.mpr ⟨(h d List.mem_cons_self).dp, all_depth fun e he => h e (List.mem_cons_of_mem _ he)⟩
theorem all_len {k L : Nat} : ∀ {ds : List PyData}, (∀ d ∈ ds, Sz k L d) → ((PyData.shownAll ds).map (·.length)).sum ≤ L * ds.length ∧ (PyData.shownAll ds).length = ds.length
  | [], _ => ⟨Nat.zero_le _, rfl⟩
  | d :: ds, h => by
    have a := (h d List.mem_cons_self).ln
    obtain ⟨b, c⟩ := all_len (ds := ds) fun e he => h e (List.mem_cons_of_mem _ he)
    simp only [PyData.shownAll, List.map_cons, List.sum_cons, List.length_cons]
    refine ⟨?_, by omega⟩
    rw [Nat.mul_add, Nat.mul_one]
    omega
theorem Sz.list {k L n : Nat} {ds : List PyData} (h : ∀ d ∈ ds, Sz k L d) (hn : ds.length ≤ n) : Sz (k + 1) ((L + 2) * n + 3) (.list ds) := by
  refine ⟨by simp only [PyData.showable]; exact all_show h, by simp only [PyData.depth]; have := all_depth h; omega, ?_⟩
  obtain ⟨a, b⟩ := all_len h
  have c := listText_len_le (PyData.shownAll ds)
  simp only [PyData.shown]
  rw [b] at c
  have m : (L + 2) * ds.length ≤ (L + 2) * n := Nat.mul_le_mul_left _ hn
  rw [Nat.add_mul] at m
  omega
theorem Sz.tuple {k L n : Nat} {ds : List PyData} (h : ∀ d ∈ ds, Sz k L d) (hn : ds.length ≤ n) : Sz (k + 1) ((L + 2) * n + 3) (.tuple ds) := by
  refine ⟨by simp only [PyData.showable]; exact all_show h, by simp only [PyData.depth]; have := all_depth h; omega, ?_⟩
  obtain ⟨a, b⟩ := all_len h
  have c := tupleText_len_le (PyData.shownAll ds)
  simp only [PyData.shown]
  rw [b] at c
  have m : (L + 2) * ds.length ≤ (L + 2) * n := Nat.mul_le_mul_left _ hn
  rw [Nat.add_mul] at m
  omega
theorem Sz.ints {n : Nat} {us : List Int} (h : ∀ u ∈ us, u.natAbs < 10 ^ 100) (hn : us.length ≤ n) : Sz 1 (103 * n + 3) (.list (us.map PyData.int)) := by
  refine Sz.list (k := 0) (L := 101) (fun d hd => ?_) (by rw [List.length_map]; exact hn)
  obtain ⟨u, hu, rfl⟩ := List.mem_map.mp hd
  exact .int (h u hu)
end VR

/-! for i, x in enumerate(xs, start=k), and over reversed(xs). -/
namespace VE
open PySem PySem.Spec PyProof.Rows L2
section
variable {prog : Program} {w : World} {A : Around} {E : Value → Shared → Prop} {s : Shared}
theorem next_rev {it l : Addr} {i : Nat} {items : Array Value} {x : Value} {Q : Value → Shared → Prop} (hit : s.heap.IsRevIter it l (i : Int)) (hl : s.heap.IsList l items)
    (hx : items[i]? = some x) (hQ : ∀ h', h'.IsRevIter it l ((i : Int) - 1) → Heap.SameBut it s.heap h' → Q x { s with heap := h' }) :
    wpAny (model prog w) A (Builtin.SmallTypes.nextOf (.ref it)) Q E s := by
  obtain ⟨ob, g1, g2, g3⟩ := id hit
  obtain ⟨ol, k1, _, nl, k2⟩ := hl
  have slot := F.slot_lri_next
  unfold Builtin.SmallTypes.nextOf
  refine wpAny_bind (wpAny_callSpecial?_slot (name := Str.ofString "__next__") hit.typeIs slot (wpAny_call_entry slot hit.typeIs F.entry_lri_next ?_ (F.args_lri_next_1 _)))
  unfold Builtin.«list_reverseiterator.__next__» ; refine wpAny_bind (wpAny_of_eq (a := (Value.ref it, [])) rfl ?_)
  try dsimp only
  refine wpAny_bind (wpAny_field g1 g3 (x := rawInt (i : Int)) rfl ?_)
  show wpAny _ A.in1 (if (i : Int) < 0 then _ else _) _ _ s
  rw [if_neg (show ¬ (i : Int) < 0 by omega)]
  show wpAny _ A.in1 (field (.ref it) 0 >>= _) _ _ s
  refine wpAny_bind (wpAny_field g1 g3 (x := .ref l) rfl ?_)
  show wpAny _ A.in1 (seqItems? (.ref l) >>= _) _ _ s
  refine wpAny_bind (wpAny_seqItems k1 k2 ?_)
  simp only [Int.toNat_natCast, hx]
  refine wpAny_bind (wpAny_setField g1 g3 (by simp) ?_)
  have here : (s.heap.update it fun o => o.mapFields fun vs => vs.setIfInBounds 1 (rawInt ((i : Int) - 1))).IsRevIter it l ((i : Int) - 1) := by
    refine ⟨_, Heap.get?_update_self _ g1 (Obj.isFreed_of_fields (Obj.data_mapFields g3 _)), (Obj.cls_mapFields ..).trans g2, ?_⟩
    rw [Obj.data_mapFields g3]
    simp
  first
  | exact wpAny_pure ⟨x, rfl, wpAny_pure (hQ _ here (Heap.SameBut.update ..))⟩
  | exact wpAny_bind (wpAny_pure (wpAny_pure ⟨x, rfl, wpAny_pure (hQ _ here (Heap.SameBut.update ..))⟩))
theorem next_rev_end {it l : Addr} {Q : Value → Shared → Prop} (hh : A.handled = none) (hit : s.heap.IsRevIter it l (-1))
    (hE : ∀ h' e, Heap.ExtBut it s.heap h' → (∃ o, h'.get? e = some o ∧ o.cls = .type "StopIteration") → E (.ref e) { s with heap := h' }) :
    wpAny (model prog w) A (Builtin.SmallTypes.nextOf (.ref it)) Q E s := by
  obtain ⟨ob, g1, g2, g3⟩ := id hit
  have slot := F.slot_lri_next
  unfold Builtin.SmallTypes.nextOf
  refine wpAny_bind (wpAny_callSpecial?_slot (name := Str.ofString "__next__") hit.typeIs slot (wpAny_call_entry slot hit.typeIs F.entry_lri_next ?_ (F.args_lri_next_1 _)))
  unfold Builtin.«list_reverseiterator.__next__» ; refine wpAny_bind (wpAny_of_eq (a := (Value.ref it, [])) rfl ?_)
  try dsimp only
  refine wpAny_bind (wpAny_field g1 g3 (x := rawInt (-1)) rfl ?_)
  show wpAny _ A.in1 (if (-1 : Int) < 0 then _ else _) _ _ s
  rw [if_pos (show (-1 : Int) < 0 by decide)]
  refine wpAny_bind (wpAny_rule ?_)
  first
  | show wpAny _ A.in1 (newExc (.type "StopIteration") [] >>= _) _ _ _
  | (refine wpAny_bind ?_; show wpAny _ A.in1 (newExc (.type "StopIteration") [] >>= _) _ _ _)
  refine wpAny_bind ?_
  simp only [newExc, newTuple]
  refine wpAny_bind (wpAny_newObj_type ?_ (by size_fits)) ; refine wpAny_bind (m := firstArgMember _ _) (wpAny_of_eq (a := Value.none) (by first | rfl | (simp only [firstArgMember]; rfl)) ?_)
  refine wpAny_newObj_type ?_ (by size_fits)
  simp only [raiseNew]
  refine wpAny_bind (wpAny_handled ?_)
  first | rw [show A.in1.handled = none from hh] | rw [hh]
  refine wpAny_bind (wpAny_pure (wpAny_throw ?_))
  exact hE _ _ (((Heap.ExtBut.refl _ _).push _).push _) ⟨_, Heap.get?_push_size _ rfl, rfl⟩
end
theorem draws_rev {prog : Program} {w : World} {A : Around} (hh : A.handled = none) (it l : Addr) (hne : l ≠ it) (items : Array Value) :
    Draws prog w A it [it, l] items.size (fun i v => items[items.size - 1 - i]? = some v)
      (fun i h => i ≤ items.size ∧ h.IsRevIter it l ((items.size : Int) - 1 - (i : Int)) ∧ h.IsList l items) where
  live := fun _ _ st => let ⟨o, ho, _⟩ := st.2.1; ⟨o, ho⟩
  frame := fun _ _ _ st k => ⟨st.1, st.2.1.at fun o e => k it (by simp) o e, st.2.2.at fun o e => k l (by simp) o e⟩
  item := fun i s Q E hi st hQ => by
    obtain ⟨_, hit, hl⟩ := st
    rw [show (items.size : Int) - 1 - (i : Int) = ((items.size - 1 - i : Nat) : Int) by omega] at hit
    have hx : items[items.size - 1 - i]? = some (items[items.size - 1 - i]'(by omega)) := Array.getElem?_eq_getElem (by omega)
    refine next_rev hit hl hx fun h' hit' sb => hQ _ h' s.toks hx ⟨hi, ?_, hl.extBut sb.extBut hne⟩ sb
    rw [show (items.size : Int) - 1 - ((i + 1 : Nat) : Int) = ((items.size - 1 - i : Nat) : Int) - 1 by omega]
    exact hit'
  done := fun s Q E st hE => by
    obtain ⟨_, hit, _⟩ := st
    rw [show (items.size : Int) - 1 - (items.size : Int) = -1 by omega] at hit
    exact next_rev_end hh hit hE

/-- what may be iterated as it is: iter(v) is v -/
structure Self (v : Value) (H : Heap → Prop) : Prop where
  iter : ∀ (prog : Program) (w : World) (A : Around) (E : Value → Shared → Prop) (s : Shared) (Q : Value → Shared → Prop), H s.heap → Q v s → wpAny (model prog w) A (pyIter v) Q E s
theorem self_rev (it l : Addr) (i : Int) : Self (.ref it) fun h => h.IsRevIter it l i := ⟨fun _ _ _ _ _ _ h q => wpAny_pyIter_revIter h q⟩
set_option maxHeartbeats 4000000 in
theorem new_enum {v : Value} {H : Heap → Prop} (B : Self v H) (k : Int) (t : Tok) (hfit : Builtin.SmallTypes.fitsIndex k = true) :
    Meets (Builtin.«enumerate.__new__» ⟨[.type "enumerate", v], [(Str.ofString "start", .int k t)]⟩) (fun _ R s => H s.heap ∧
      R (.ok (.ret (.ref s.heap.objs.size))) { s with heap := s.heap.push { cls := .type "enumerate", data := .fields #[.none, .bool false, v, rawInt k, .none, .none] } }) := by
  refine .of_wp fun prog w A R s h => ?_
  obtain ⟨hp, g, d, tk, os⟩ := s
  obtain ⟨h1, h⟩ := h
  have hsub := sub_enumerate
  have hnf : (!Builtin.SmallTypes.fitsIndex k) = false := by rw [hfit] ; rfl
  have q1 : ∀ {A' : Around} {E : Value → Shared → Prop} {Q : Value → Shared → Prop}, Q v ⟨hp, g, d, tk, os⟩ → wpAny (model prog w) A' (pyIter v) Q E ⟨hp, g, d, tk, os⟩ := fun q => B.iter prog w _ _ _ _ h1 q
  have a1 : (Str.ofString "start" == ("start" : Str)) = true := by decide +kernel
  have a2 : (Str.ofString "start" != ("start" : Str)) = false := by decide +kernel
  have a3 : (Str.ofString "start" != ("iterable" : Str)) = true := by decide +kernel
  have a4 : (("start" : Str) == Str.ofString "start") = true := by decide +kernel
  have a5 : (("iterable" : Str) == Str.ofString "start") = false := by decide +kernel
  wp_walk using q1
  refine wpAny_stack_any fun st => wpAny_pure ?_
  split
  · rename_i c _ _ _ _ _
    cases (c == Value.type "enumerate")
    · wp_walk using q1
      exact ⟨_, rfl, h⟩
    · wp_walk using q1
      exact ⟨_, rfl, h⟩
  · wp_walk using q1
    exact ⟨_, rfl, h⟩
theorem call_enum {prog : Program} {w : World} {A : Around} {E : Value → Shared → Prop} {s : Shared} {v : Value} {H : Heap → Prop} {k : Int} {t : Tok} {Q : Value → Shared → Prop} (B : Self v H) (h1 : H s.heap)
    (b0 : -(2 ^ 63) ≤ k) (b1 : k < 2 ^ 63) (h : Q (.ref s.heap.objs.size) { s with heap := s.heap.push { cls := .type "enumerate", data := .fields #[.none, .bool false, v, rawInt k, .none, .none] } }) :
    wpAny (model prog w) A (call (.type "enumerate") [v] [(Str.ofString "start", .int k t)]) Q E s := by
  refine callType_newKw F.called_enumerate (by decide) (F.typeCall_enumerate_start _ _) (F.newCall_enumerate_start _ _) (fun obj => F.args_object_init_start obj _ _) F.entry_enumerate_new (new_enum B k t (fits_start b0 b1)) ⟨h1, ?_⟩
  exact ⟨⟨_, Heap.get?_push_size _ rfl, rfl⟩, h⟩
end VE
namespace VE
open PySem PySem.Spec PyProof.Rows L2
/-- k, k + 1, .. with the list at a (n items, which the loop leaves there) from its end, in new pairs -/
def Iter' (K : PySem.W.Frag) (a : Addr) (n : Nat) (k : Int) : It :=
  ⟨fun i H => i < n ∧ ∃ xs : List V, SqL K H a xs ∧ xs.length = n, fun i H v H' => ∃ T x, v = .ref T ∧ H T = none ∧ H' = upd H T (.tup [.int (k + (i : Nat)), x]) ∧ ∀ xs, SqL K H a xs → xs[n - 1 - i]? = some x,
    fun i H => n ≤ i ∧ ∃ xs : List V, SqL K H a xs ∧ xs.length = n⟩
theorem turn_enumRev {P : Program} {w : World} {K : PySem.W.Frag} {elts : List Expr} {kk : Nat} {tpos : Pos} (a e it : Addr) (n : Nat) (k : Int) (hai : a ≠ it) (hei : e ≠ it) (hea : e ≠ a) :
    Turn P w K (.Tuple elts kk tpos) (Iter' K a n k) [e, it] e (fun i h => (∃ old, IsEnum h e it (k + (i : Nat)) old) ∧ i ≤ n ∧ h.IsRevIter it a ((n : Int) - 1 - (i : Nat))) where
  mem := by simp
  obj := fun i h st b hb => by
    obtain ⟨⟨old, he⟩, _, o, ho, hc, hd⟩ := st
    have e' : b = e ∨ b = it := by simpa using hb
    rcases e' with z | z
    · rw [z]; exact ⟨_, he, fun v q => nomatch q⟩
    · rw [z]; exact ⟨o, ho, fun v q => by rw [hd] at q; cases q⟩
  keep := fun i h h' st kp => let ⟨⟨old, he⟩, hn, hi⟩ := st; ⟨⟨old, kp e (by simp) _ he⟩, hn, hi.at fun o q => kp it (by simp) o q⟩
  item := by
    intro X hP hw hK hc i pins s σ H E I hf st hg
    subst hP hw hK
    obtain ⟨⟨old, he⟩, hin, hit⟩ := st
    obtain ⟨hlt, xs, hq, hl⟩ := hg
    obtain ⟨its, rv, p, hz⟩ := I.list hq
    have hn : its.toArray.size = n := by rw [List.size_toArray, ← rv.length]; exact hl
    have hh : X.A.in1.handled = none := I.ok.hd hc
    have hel : e < s.heap.objs.size := Heap.lt_size he
    have hil : it < s.heap.objs.size := by obtain ⟨_, q, _⟩ := hit; exact Heap.lt_size q
    have D := draws_rev (prog := X.prog) (w := X.w) (A := X.A.in1) hh it a hai its.toArray
    rw [hn] at D
    refine wpAny_pyNext_enum_itemC D he ⟨hin, hit, p.isList⟩ hlt hei (by simp [hei, hea]) fun u h' tk hP ho hs' hT hsz hkp => ?_
    obtain ⟨_, hit', _⟩ := hs'
    have hx : xs[n - 1 - i]? = some (xs[n - 1 - i]'(by omega)) := List.getElem?_eq_getElem (by omega)
    obtain ⟨u', hu', ru⟩ := rv.get hx
    have hP' : its[n - 1 - i]? = some u := by simpa using hP
    have euu : u' = u := by rw [hP'] at hu'; exact (Option.some.inj hu').symm
    subst euu
    refine ⟨_, rfl, wpAny_letOwnedTupleGo_enum (s := { s with heap := h', toks := tk + 1 }) ho fun h'' he' sb => ?_⟩
    have hT2 : h''.get? s.heap.objs.size = some { cls := .type "tuple", data := .seq #[.int (k + (i : Nat)) tk, u'] } := (sb.2 _ (Nat.ne_of_gt hel)).trans hT
    have new : ObjOk X.prog X.w (upd H s.heap.objs.size (.tup [.int (k + (i : Nat)), xs[n - 1 - i]'(by omega)])) h'' s.heap.objs.size (.tup [.int (k + (i : Nat)), xs[n - 1 - i]'(by omega)]) :=
      ⟨by show 2 ≤ sizeLine; decide, [.int (k + (i : Nat)) tk, u'], .cons ⟨_, rfl⟩ (.cons ru .nil), ⟨_, hT2, rfl, _, rfl⟩⟩
    have I1 : Inv X pins σ (upd H s.heap.objs.size (.tup [.int (k + (i : Nat)), xs[n - 1 - i]'(by omega)])) { s with heap := h'', toks := tk + 1 } :=
      I.turnedNew (ch := [e, it]) (fun b ob hb q => (sb.2 b (fun z => hb (by simp [z]))).trans (hkp b ob (fun z => hb (by simp [z])) (fun z => hb (by simp [z])) q)) hf (Nat.le_refl _) new
    refine ⟨.ref s.heap.objs.size, _, I1, rfl, ⟨_, _, rfl, I.hok.fresh (Nat.le_refl _), rfl, fun ys hy => by rw [I.list_inj hy hq]; exact hx⟩, ⟨⟨u', ?_⟩, hlt, hit'.at fun o q => (sb.2 it (Ne.symm hei)).trans q⟩, fun b hb => ?_⟩
    · have e1 : k + ((i + 1 : Nat) : Int) = k + (i : Int) + 1 := by omega
      rw [e1]; exact he'
    · have hb' : b < s.heap.objs.size := by
        have e' : b = e ∨ b = it := by simpa using hb
        rcases e' with z | z
        · rw [z]; exact hel
        · rw [z]; exact hil
      rw [upd_ne (Nat.ne_of_lt hb')]
      exact (hf b hb).1
  done := by
    intro X hP hw hK hc i pins s σ H E I hf st hg
    subst hP hw hK
    obtain ⟨⟨old, he⟩, hin, hit⟩ := st
    obtain ⟨hge, xs, hq, hl⟩ := hg
    obtain ⟨its, rv, p, hz⟩ := I.list hq
    have hn : its.toArray.size = n := by rw [List.size_toArray, ← rv.length]; exact hl
    have hh : X.A.in1.handled = none := I.ok.hd hc
    obtain ⟨f0, f1, f2, f3, f4, f5⟩ := hf it (by simp)
    have D := draws_rev (prog := X.prog) (w := X.w) (A := X.A.in1) hh it a hai its.toArray
    rw [hn] at D
    have ei : i = n := by omega
    subst ei
    exact wpAny_pyNext_enum_endD D he ⟨Nat.le_refl _, hit, p.isList⟩ fun h' eb => ⟨rfl, I.turned (t' := s.toks) (fun b o hb q => eb b o hb q) f0 f1 f3 f4 f5⟩
  self := fun A i s Q E st h => let ⟨⟨_, he⟩, _⟩ := st; wpAny_pyIter_enum he h
theorem walk_enumRev {K : PySem.W.Frag} {a : Addr} {xs : List V} {k : Int} : Walk (Iter' K a xs.length k) xs.length (fun H => SqL K H a xs) (YPair (fun i => some (.int (k + (i : Nat)))) (fun i => xs[xs.length - 1 - i]?)) := by
  refine ⟨fun i _ hi q => ⟨hi, xs, q, rfl⟩, fun _ q => ⟨Nat.le_refl _, xs, q, rfl⟩, fun i H v H' _ q y => ?_⟩
  obtain ⟨T, x, h1, h2, h3, h4⟩ := y
  exact ⟨T, .int (k + (i : Nat)), x, h1, h2, h3, rfl, h4 xs q⟩
def iEnumRev (K : PySem.W.Frag) (ta : TA) (k : Int) : TI := fun σ H R => ta σ H fun vs H1 => ∃ (a : Addr) (xs : List V), vs = [.ref a] ∧ SqL K H1 a xs ∧ R (Iter' K a xs.length k) H1
section
variable {M : Model} {A : Around} {E : Value → Shared → Prop} {s : Shared} {env : Env}
theorem callWith_typeKw {pos : Pos} {T : String} {e : Expr} {rest : List Expr} {kws : List Keyword} {Q : Value → Shared → Prop} (hall : (backToKw pos (keywordEach kws env)).all (·.1.isSome) = true)
    (h : wpAny M A (spliced (backTo pos (starEach (e :: rest) env))) (fun vs s₁ => wpAny M A (evalAll ((backToKw pos (keywordEach kws env)).map (·.2)))
      (fun ks s₂ => wpAny M A (call (.type T) vs (((backToKw pos (keywordEach kws env)).filterMap (·.1)).zip ks)) Q E s₂) E s₁) E s)
    (hplain : ((backTo pos (starEach (e :: rest) env)).any (·.1) || (backToKw pos (keywordEach kws env)).any (·.1.isNone)) = false) (he : starEach (e :: rest) env = (false, eval e env) :: starEach rest env) :
    wpAny M A (callWith pos (.type T) [] (backTo pos (starEach (e :: rest) env)) (backToKw pos (keywordEach kws env))) Q E s := by
  unfold callWith
  refine wpAny_bind (wpAny_holding (wpAny_mono (evalArgs_kw2 (f := .type T) (Q := fun a s₁ => wpAny M A (call (.type T) a.pos a.kw) Q E s₁) hall h he) (fun a s₁ h₁ => wpAny_bind (wpAny_standAt ?_)) fun _ _ x => x))
  simp only [hplain]
  refine wpAny_bind (wpAny_pure ?_)
  exact wpAny_bind (wpAny_mono h₁ (fun r s₂ hr => wpAny_bind (wpAny_holding (wpAny_point (wpAny_pure hr)))) fun _ _ x => x)
theorem Call_kws {func : Expr} {args : List Expr} {kws : List Keyword} {pos : Pos} {Q : Value → Shared → Prop}
    (h : wpAny M A (eval func env) (fun f s₁ => wpAny M A (callWith pos f [] (backTo pos (starEach args env)) (backToKw pos (keywordEach kws env))) Q E s₁) E s)
    (he : eval (.Call func args kws pos) env = (do callWith pos (← eval func env) [] (backTo pos (starEach args env)) (backToKw pos (keywordEach kws env))) := by rfl) :
    wpAny M A (eval (.Call func args kws pos) env) Q E s := by
  rw [he]; exact wpAny_bind h
end
theorem pi_enumRev {X : Cx} {e : Expr} {ta : TA} {p p2 pos pos2 kp jp tpos : Pos} {j : Nat} {k : Int} {elts : List Expr} {kk : Nat} (hk0 : -(2 ^ 63) ≤ k) (hk1 : k < 2 ^ 63) (hg : Gl X "enumerate") (hm : X.mg "enumerate" = none) (hg2 : Gl X "reversed") (hm2 : X.mg "reversed" = none) (ha : PA X [e] ta)
    (hs : starEach [e] X.env = [(false, eval e X.env)] := by rfl)
    (hs2 : starEach [.Call (.Name "reversed" p2) [e] [] pos2] X.env = (false, eval (.Call (.Name "reversed" p2) [e] [] pos2) X.env) :: starEach [] X.env := by rfl)
    (hst : ∀ q, (backTo q (starEach [.Call (.Name "reversed" p2) [e] [] pos2] X.env)).any (·.1) = false := by exact fun _ => rfl)
    (hbs : eval (.Call (.Name "reversed" p2) [e] [] pos2) X.env = (do callWith pos2 (← eval (.Name "reversed" p2) X.env) [] (backTo pos2 (starEach [e] X.env)) (backToKw pos2 (keywordEach [] X.env))) := by rfl) :
    PI X (.Tuple elts kk tpos) (.Call (.Name "enumerate" p) [.Call (.Name "reversed" p2) [e] [] pos2] [⟨some "start", .Constant (.int k) j jp, kp⟩] pos) (iEnumRev X.K ta k) := by
  refine ⟨fun pins s σ H R I h => ?_⟩
  refine Call_kws (ld_blt I hg hm boot_enumerate (callWith_typeKw rfl (args_cons ?_ hs2) (by rw [hst]; rfl) hs2))
  refine Call_ (ld_blt I hg2 hm2 PyProof.Rows.boot_reversed (PyProof.Rows.callWith_type1 (thn (ha.run pos2 pins s σ H _ I h) fun us s1 ⟨vs, H1, I1, r1, q1⟩ => ?_) hs rfl)) hbs
  obtain ⟨a, xs, ex, hq, q⟩ := q1
  subst ex
  cases r1 with
  | cons r rr =>
    cases rr
    cases r
    obtain ⟨its, rv, p', hz⟩ := I1.list hq
    have hl := rv.length
    have hal : a < s1.heap.objs.size := by obtain ⟨_, _, z, _⟩ := p'; exact Heap.lt_size z
    refine call_reversed_list p'.isList (args_nil (kws_cons (wpAny_Constant_int (kws_nil ?_))))
    have sz1 : (s1.heap.push { cls := .type "list_reverseiterator", data := .fields #[.ref a, rawInt (((its.toArray.size : Nat) : Int) - 1)] }).objs.size = s1.heap.objs.size + 1 := Heap.size_push ..
    have hit0 : (s1.heap.push { cls := .type "list_reverseiterator", data := .fields #[.ref a, rawInt (((its.toArray.size : Nat) : Int) - 1)] }).IsRevIter s1.heap.objs.size a (((its.toArray.size : Nat) : Int) - 1) := ⟨_, Heap.get?_push_size _ rfl, rfl, rfl⟩
    refine call_enum (self_rev s1.heap.objs.size a (((its.toArray.size : Nat) : Int) - 1)) hit0 hk0 hk1 ?_
    have he : IsEnum ((s1.heap.push { cls := .type "list_reverseiterator", data := .fields #[.ref a, rawInt (((its.toArray.size : Nat) : Int) - 1)] }).push { cls := .type "enumerate", data := .fields #[.none, .bool false, .ref s1.heap.objs.size, rawInt k, .none, .none] }) (s1.heap.objs.size + 1) s1.heap.objs.size k .none := by
      have := Heap.get?_push_size (s1.heap.push { cls := .type "list_reverseiterator", data := .fields #[.ref a, rawInt (((its.toArray.size : Nat) : Int) - 1)] }) (o := { cls := .type "enumerate", data := .fields #[.none, .bool false, .ref s1.heap.objs.size, rawInt k, .none, .none] }) rfl
      rw [sz1] at this; exact this
    show wpAny _ _ (pyIter (.ref (s1.heap.push { cls := .type "list_reverseiterator", data := .fields #[.ref a, rawInt (((its.toArray.size : Nat) : Int) - 1)] }).objs.size)) _ _ _
    rw [sz1]
    refine wpAny_pyIter_enum he ?_
    have hit1 := hit0.at (h' := (s1.heap.push { cls := .type "list_reverseiterator", data := .fields #[.ref a, rawInt (((its.toArray.size : Nat) : Int) - 1)] }).push { cls := .type "enumerate", data := .fields #[.none, .bool false, .ref s1.heap.objs.size, rawInt k, .none, .none] }) fun o q => Heap.get?_push_of_some _ q
    refine ⟨s1.heap.objs.size + 1, [s1.heap.objs.size + 1, s1.heap.objs.size], _, _, H1, rfl, ?_, turn_enumRev a (s1.heap.objs.size + 1) s1.heap.objs.size xs.length k (Nat.ne_of_lt hal) (Nat.succ_ne_self _) (Nat.ne_of_gt (Nat.lt_succ_of_lt hal)), ⟨⟨.none, ?_⟩, Nat.zero_le _, ?_⟩, fun b hb => ?_, q⟩
    · exact I1.kept fun b ob q => Heap.get?_push_of_some _ (Heap.get?_push_of_some _ q)
    · rw [show k + ((0 : Nat) : Int) = k by omega]; exact he
    · rw [show (xs.length : Int) - 1 - ((0 : Nat) : Int) = ((its.toArray.size : Nat) : Int) - 1 by rw [List.size_toArray]; omega]; exact hit1
    · have e' : b = s1.heap.objs.size + 1 ∨ b = s1.heap.objs.size := by simpa using hb
      have hle : s1.heap.objs.size ≤ b := by
        rcases e' with z | z
        · rw [z]; exact Nat.le_add_right _ _
        · rw [z]; exact Nat.le_refl _
      exact I1.fpOk hle (I1.hok.fresh hle)
end VE

/-! A method called with keywords. -/
namespace VP
open PySem PySem.Spec PyProof.Rows L2
/-- o.m(e, .., k = v, ..) -/
def tMethKw (C : Addr) (m : Str) (n j : Nat) (sp : Sp) (gV : List V → List V → List V) (E : XK) (ta : TE) (t tk : TA) : TE := fun σ H Q =>
  ta σ H fun x H1 => ∃ a dx fs, x = .ref a ∧ H1 a = some (.ins C dx fs) ∧ fs.lookup m = none ∧
    t σ H1 fun vs H2 => tk σ H2 fun zs H3 => vs.length = n ∧ zs.length = j ∧ sp (gV (x :: vs) zs) H3 Q E
theorem pe_methKw {X : Cx} {CX : CXT} {k n : Nat} {f C : Addr} {fd : FuncData} {ps ks : List Str} {sp : Sp} {E : XK} {m : Str} {pos apos : Pos} {o e : Expr} {es : List Expr} {kws : List Keyword} {ta : TE} {t tk : TA}
    {g : List Value → List Value → List Value} {gV : List V → List V → List V} {pl : Sem Bool}
    (he : PE X o ta) (c : Cls X.K C) (hm : Meth X.K C m f) (F : FnOk X.prog X.w X.K X.mg X.base CX k f fd ps sp) (hr : Room k X.A)
    (hb : KBn X.K fd ps (n + 1) ks g gV) (hx : Passes CX X E) (ha : PA X (e :: es) t) (hkw : PK X kws tk)
    (hall : (backToKw pos (keywordEach kws X.env)).all (·.1.isSome) = true := by rfl) (hks : (backToKw pos (keywordEach kws X.env)).filterMap (·.1) = ks := by rfl)
    (hst : starEach (e :: es) X.env = (false, eval e X.env) :: starEach es X.env := by rfl)
    (hpl : ((backTo pos (starEach (e :: es) X.env)).any (·.1) || (backToKw pos (keywordEach kws X.env)).any (·.1.isNone)) = false := by rfl)
    (ht : eval (.Call (.Attribute o m apos) (e :: es) kws pos) X.env = (do
      let ov ← eval o X.env
      standAt apos.atName
      let (f, first) ← holding [ov] (getMethod ov m pl)
      callWith pos f first (backTo pos (starEach (e :: es) X.env)) (backToKw pos (keywordEach kws X.env))) := by rfl) :
    PE X (.Call (.Attribute o m apos) (e :: es) kws pos) (tMethKw C m n ks.length sp gV E ta t tk) := by
  constructor
  intro pins s σ H Q I h
  refine PySem.W.methodCall_KW (pl := pl) (thn (he.run pins s σ H _ I h) ?_) ht
  rintro u s1 ⟨x, H1, I1, rx, a, dx, fs, ex, ea, l, q⟩
  subst ex
  obtain rfl : u = Value.ref a := rx
  refine getmeth_ok I1 ea c hm l ?_
  refine PySem.W.callWith_KW (first := [.ref a]) (h₀ := X.base) I.ok.mod.kin hm.kp hall (thn (ha.run pos pins s1 σ H1 _ I1 q) ?_) hpl hst
  rintro us s2 ⟨vs, H2, I2, r, q2⟩
  refine thn (hkw.run pos pins s2 σ H2 _ I2 q2) ?_
  rintro ws s3 ⟨zs, H3, I3, rz, l1, l2, q3⟩
  refine ⟨I3.kIn, ?_⟩
  rw [hks]
  have r1 : Vals (V.ref a :: vs) (Value.ref a :: us) := .cons rfl r
  have rel := hb.rel r1 rz
  have len : (Value.ref a :: us).length = n + 1 := by rw [List.length_cons, ← r.length, l1]
  have bind := hb.to s3 (Value.ref a :: us) ws I3.kIn len (rz.length.symm.trans l2)
  show wpAny _ _ (call (.ref f) (Value.ref a :: us) (ks.zip ws)) _ _ _
  refine wpAny_call (codeAny_mono (F.run X.A X.stack s3 H3 ⟨Value.ref a :: us, ks.zip ws⟩ _ _ Q E hr I3.env0 bind rel q3) ?_)
  intro res s' hq
  match res, hq with
  | .error e, hq => exact hx pins σ H3 s3 e s' I3 hq
  | .ok (.ret u), hq => exact I3.after hq
  | .ok .next, hq => exact False.elim hq
  | .ok .brk, hq => exact False.elim hq
  | .ok .cont, hq => exact False.elim hq
end VP

/-! == and != by an own __eq__ whatever stands on the right, repr by an own __repr__, None in an f-string. -/
namespace VN
open PySem PySem.Spec PyProof.Rows L2

section
variable {prog : Program} {w : World} {A : Around} {E : Value → Shared → Prop} {s : Shared} {K : PySem.W.Frag} {x C L f : Addr} {h₀ : Heap} {m : Str → Option Value} {ox : Obj} {od : Option Obj} {b tb : Value}
theorem bound_builtin {M : Model} {name : Str} {id : String} {args : List Value} {Q : Option Value → Shared → Prop} (X : K.In s.heap) (I : PySem.W.InstAt s.heap x ox C od) (hs : PySem.W.findIn K (.ref C) name = some (some (.builtin id)))
    (hb : ∀ self, bindSpecial (.builtin id) self = pure (.builtin id, [self]))
    (h : wpAny M A (call (.builtin id) (.ref x :: args)) (fun v => Q (some v)) E s) : wpAny M A (callSpecialIfBound? (.ref x) name args) Q E s := by
  simp only [callSpecialIfBound?, bindSpecialIfBound?]
  refine wpAny_holding (wpAny_bind (wpAny_bind (wpAny_bind (I.type.here ((PySem.W.looks_findIn X hs).here ?_)))))
  refine wpAny_bind (wpAny_askSetting (wpAny_ite ?_))
  have fin : wpAny M A (call (.builtin id) ([.ref x] ++ args) >>= fun v => pure (some v)) Q E s := wpAny_bind (wpAny_mono h (fun v s' h' => wpAny_pure h') fun _ _ h' => h')
  split
  · exact wpAny_bind ((PySem.W.Looks.of_pure (hb _)).here (wpAny_pure (by exact fin)))
  · exact wpAny_tryCatch (wpAny_bind ((PySem.W.Looks.of_pure (hb _)).here (wpAny_pure (by exact fin))))
open Builtin in
theorem obj_ne {Q : Value → Shared → Prop} (hu : A.in1.units < cLine) (X : K.In s.heap) (I : PySem.W.InstAt s.heap x ox C od) (hm : PySem.W.mroIn K C (.type "object") = some true)
    (hs : PySem.W.findIn K (.ref C) "__eq__" = some (some (.ref f))) (hf : PySem.W.isFn K (.ref f) = true)
    (h : wpAny (model prog w) A.in1 (call (.ref f) [.ref x, b]) (fun v s' => ∃ r, v = .bool r ∧ Q (.bool (!r)) s') E s) : wpAny (model prog w) A (call (.builtin "object.__ne__") [.ref x, b]) Q E s := by
  refine wpAny_call (codeAny_call_builtin PySem.F.slot_zip_ne.plain PySem.F.cmpEntry_ne (PySem.W.check_slot (i := "object.__ne__") (owner := "object") (n := "__ne__") PySem.F.cmpKind_ne PySem.F.cmpSplit_ne (I.type.andThen (PySem.W.looks_mroIn X hm)) (PySem.F.cmpArgs_ne _ _) ?_))
  unfold Builtin.«object.__ne__»
  refine wpAny_bind (m := slotArgs "__ne__" 1 _) (wpAny_pure ?_)
  refine wpAny_bind (m := cRoomFor _ _) (wpAny_cRoomFor hu ?_)
  refine wpAny_bind (m := callSpecialIfBound? (.ref x) (Str.ofString "__eq__") _) (PySem.W.ifBound_K X I hs hf (wpAny_mono h (fun r s' hq => ?_) fun _ _ y => y))
  obtain ⟨r, rfl, hq⟩ := hq
  exact wpAny_bind (wpAny_truthy_bool (wpAny_pure hq))
theorem ne_K {Q : Value → Shared → Prop} (hu : A.units + 1 < cLine) (F : PyProof.Rows.Fr h₀ L s.heap m) (X₀ : K.In h₀) (I : PySem.W.InstAt s.heap x ox C od) (hb : PySem.W.Looks (model prog w) s.heap (typeOf b) tb) (hn : PySem.W.notFirst K C tb = true)
    (hne : PySem.W.findIn K (.ref C) "__ne__" = some (some (.builtin "object.__ne__"))) (hm : PySem.W.mroIn K C (.type "object") = some true)
    (hs : PySem.W.findIn K (.ref C) "__eq__" = some (some (.ref f))) (hf : PySem.W.isFn K (.ref f) = true)
    (h : wpAny (model prog w) A.in1 (call (.ref f) [.ref x, b]) (fun v s' => ∃ r, v = .bool r ∧ Q (.bool (!r)) s') E s) : wpAny (model prog w) A (richCompare .NotEq (.ref x) b) Q E s := by
  have X := X₀.keeps F.keep
  have hu1 : A.in1.units < cLine := by show A.units + 1 < _; exact hu
  have one : wpAny (model prog w) A (tryCompare (.ref x) (cmpInfo .NotEq).2.1 b) (fun r s' => ∃ v, r = some v ∧ Q v s') E s := by
    unfold tryCompare
    refine wpAny_bind (bound_builtin X I hne PySem.F.slot_zip_ne.bind (obj_ne hu1 X I hm hs hf (wpAny_mono h (fun v s' hv => ?_) fun _ _ e => e)))
    obtain ⟨r, rfl, q⟩ := hv
    exact ⟨r, rfl, wpAny_pure ⟨_, rfl, q⟩⟩
  unfold richCompare
  simp only [oneThing_ref]
  refine wpAny_holding (wpAny_bind (wpAny_cRoomFor (by omega) ?_))
  refine wpAny_bind (I.type.here (wpAny_bind (hb.here ?_)))
  split
  · rename_i q
    have e : PySem.W.subIn K tb (.ref C) = some false := by
      rcases Bool.or_eq_true_iff.mp hn with e | e
      · rw [beq_iff_eq.mp e] at q; simp at q
      · exact beq_iff_eq.mp e
    refine wpAny_bind ((PySem.W.looks_subIn X e).here ?_)
    simp only [Bool.false_eq_true, if_false]
    refine wpAny_bind (wpAny_mono one (fun r s' z => ?_) fun _ _ e => e)
    obtain ⟨v, rfl, hq⟩ := z
    exact wpAny_pure hq
  · refine wpAny_bind (wpAny_pure ?_)
    simp only [Bool.false_eq_true, if_false]
    refine wpAny_bind (wpAny_mono one (fun r s' z => ?_) fun _ _ e => e)
    obtain ⟨v, rfl, hq⟩ := z
    exact wpAny_pure hq
end

/-- what of the text is true of an own class that is only a class: its instances' type, isinstance, != -/
structure IsC (K : PySem.W.Frag) (C : Addr) : Prop where
  ic : PySem.W.isClsIn K C = true
  ty : PySem.W.typeIn K (.ref C) = some (.type "type")
  gc : PySem.W.findIn K (.ref C) "__class__" = some (some (.builtin "object.__class__"))
  gn : PySem.W.specialIn K (.builtin "object.__class__") "__get__" = some (some (.builtin "getset_descriptor.__get__"))
  tk : PySem.W.takesIn K (.builtin "object.__class__") = some true
  ob : PySem.W.mroIn K C (.type "object") = some true
  ne : PySem.W.findIn K (.ref C) "__ne__" = some (some (.builtin "object.__ne__"))
/-- the built-in classes of the values that occur -/
def kinds : List String := ["NoneType", "bool", "int", "str", "list", "tuple", "dict"]
def allTy (l : List Value) : Bool := l.all fun v => match v with | .type _ => true | _ => false
theorem kinds_mro : kinds.all (fun n => (PySem.fastBuiltinMro n).any allTy) = true := by decide +kernel
theorem sub_ty {K : PySem.W.Frag} {C : Addr} {n : String} (h : n ∈ kinds) : PySem.W.subIn K (.type n) (.ref C) = some false := by
  have k := List.all_eq_true.mp kinds_mro n h
  show Option.map (fun x => List.contains x (Value.ref C)) (PySem.fastBuiltinMro n) = some false
  cases e : PySem.fastBuiltinMro n with
  | none => rw [e] at k; cases k
  | some l =>
    rw [e] at k
    have k : allTy l = true := k
    show some (List.contains l (Value.ref C)) = some false
    congr 1
    rw [List.contains_eq_any_beq, List.any_eq_false]
    intro y hy c
    have e2 := eq_of_beq c
    have := List.all_eq_true.mp k y hy
    rw [← e2] at this
    cases this
theorem notFirst_ty {K : PySem.W.Frag} {C : Addr} {n : String} (h : n ∈ kinds) : PySem.W.notFirst K C (.type n) = true := by
  unfold PySem.W.notFirst
  rw [sub_ty h]
  simp
theorem notFirst_own {K : PySem.W.Frag} {C : Addr} : PySem.W.notFirst K C (.ref C) = true := by
  unfold PySem.W.notFirst
  simp
theorem kit_self {K : PySem.W.Frag} {C : Addr} : PySem.W.kitOne K (.ref C) (.ref C) = some true := by
  unfold PySem.W.kitOne
  rw [if_pos (by simp)]
theorem kit_no {K : PySem.W.Frag} {C : Addr} {n : String} (c : IsC K C) (h : n ∈ kinds) : PySem.W.kitOne K (.type n) (.ref C) = some false := by
  have hc : (PySem.W.clsIn K C).isSome = true := c.ic
  unfold PySem.W.kitOne
  rw [if_neg (by simp)]
  unfold PySem.W.kitCls
  show (if ((PySem.W.clsIn K C).isSome && PySem.W.typeIn K (.ref C) == some (.type "type")) = true then PySem.W.subIn K (.type n) (.ref C) else none) = some false
  rw [hc, c.ty, if_pos (by simp), sub_ty h]
theorem IsC.typ {K : PySem.W.Frag} {C a dx : Addr} {H : Hp} {fs : List (Str × V)} (c : IsC K C) (cl : Cls K C) (e : H a = some (.ins C dx fs)) : TyX K H (.ref a) (.ref C) := .base (.ins e cl c.gc c.gn c.tk c.ob)
def rOwn (K : PySem.W.Frag) (C : Addr) (sp : Sp) (E : XK) : R2 := fun x y H Q => ∃ a dx fs t, x = .ref a ∧ H a = some (.ins C dx fs) ∧ TyX K H y t ∧ PySem.W.notFirst K C t = true ∧ sp [x, y] H (fun v H' => ∃ b, v = .bl b ∧ Q (.bl b) H') E
def rOwnN (K : PySem.W.Frag) (C : Addr) (sp : Sp) (E : XK) : R2 := fun x y H Q => ∃ a dx fs t, x = .ref a ∧ H a = some (.ins C dx fs) ∧ TyX K H y t ∧ PySem.W.notFirst K C t = true ∧ sp [x, y] H (fun v H' => ∃ b, v = .bl b ∧ Q (.bl (!b)) H') E
def rReprOwn (C : Addr) (sp : Sp) (E : XK) : List V → Hp → VK → Prop := fun xs H Q => ∃ a dx fs, xs = [.ref a] ∧ H a = some (.ins C dx fs) ∧ sp [.ref a] H (fun v H' => ∃ y, v = .str y ∧ Q (.str y) H') E
section
variable {X : Cx} {CX : CXT} {k : Nat} {f C : Addr} {fd : FuncData} {ps : List Str} {sp : Sp} {E : XK}
theorem op_eqOwn (F : FnOk X.prog X.w X.K X.mg X.base CX k f fd ps sp) (hr : Room k X.A) (o : Meth X.K C "__eq__" f) (c : IsC X.K C) (hb : Binds X.K fd ps []) (hx : Passes CX X E) : OpR X (compareOp .Eq) (rOwn X.K C sp E) := by
  intro pins s σ H x y v u Q I rx ry h
  obtain ⟨a, dx, fs, t, rfl, ea, ty, nf, hsp⟩ := h
  obtain rfl : v = Value.ref a := rx
  obtain ⟨mA, J, _⟩ := ins_get I.hok ea
  obtain ⟨od, J, _⟩ := J.look
  obtain ⟨m, hF⟩ := I.fr
  obtain ⟨P, Z, p, _⟩ := kit_of I ry ty
  show wpAny (model X.prog X.w) X.A (richCompare .Eq (.ref a) u) (EP X pins σ Q) X.xe s
  refine PySem.W.cmp_K (op := .Eq) (tb := t) hr.units0 hF I.ok.mod.kin J (Z.ty _ _ I.kIn p) nf o.at_ o.fn ?_
  have hl := F.len _ _ _ _ hsp
  have r2 : Vals [V.ref a, y] [Value.ref a, u] := .cons rfl (.cons ry .nil)
  refine wpAny_call (codeAny_mono (F.run X.A X.stack s H ⟨[.ref a, u], []⟩ [.ref a, u] [.ref a, y] _ E hr I.env0 (by
    have := hb s [.ref a, u] I.kIn (by simpa using hl)
    simpa using this) r2 hsp) fun r s' hq => ?_)
  cases r with
  | error e => exact hx pins σ H s e s' I hq
  | ok fl =>
    cases fl with
    | ret w =>
      obtain ⟨z, H', I', rz, b, ez, q⟩ := I.after hq
      subst ez
      cases rz
      exact ⟨.bl b, H', I', rfl, q⟩
    | next => exact False.elim hq
    | brk => exact False.elim hq
    | cont => exact False.elim hq
theorem op_neOwn (F : FnOk X.prog X.w X.K X.mg X.base CX k f fd ps sp) (hr : Room (k + 1) X.A) (o : Meth X.K C "__eq__" f) (c : IsC X.K C) (hb : Binds X.K fd ps []) (hx : Passes CX X E) : OpR X (compareOp .NotEq) (rOwnN X.K C sp E) := by
  intro pins s σ H x y v u Q I rx ry h
  obtain ⟨a, dx, fs, t, rfl, ea, ty, nf, hsp⟩ := h
  obtain rfl : v = Value.ref a := rx
  obtain ⟨mA, J, _⟩ := ins_get I.hok ea
  obtain ⟨od, J, _⟩ := J.look
  obtain ⟨m, hF⟩ := I.fr
  obtain ⟨P, Z, p, _⟩ := kit_of I ry ty
  show wpAny (model X.prog X.w) X.A (richCompare .NotEq (.ref a) u) (EP X pins σ Q) X.xe s
  refine ne_K (tb := t) (by have := hr.un; omega) hF I.ok.mod.kin J (Z.ty _ _ I.kIn p) nf c.ne c.ob o.at_ o.fn ?_
  have hl := F.len _ _ _ _ hsp
  have r2 : Vals [V.ref a, y] [Value.ref a, u] := .cons rfl (.cons ry .nil)
  refine wpAny_call (codeAny_mono (F.run X.A.in1 X.stack s H ⟨[.ref a, u], []⟩ [.ref a, u] [.ref a, y] _ E hr.in1 I.env0.in1 (by
    have := hb s [.ref a, u] I.kIn (by simpa using hl)
    simpa using this) r2 hsp) fun r s' hq => ?_)
  cases r with
  | error e => exact hx pins σ H s e s' I hq
  | ok fl =>
    cases fl with
    | ret w =>
      obtain ⟨z, H', I', rz, b, ez, q⟩ := I.after hq
      subst ez
      cases rz
      exact ⟨b, rfl, .bl (!b), H', I', rfl, q⟩
    | next => exact False.elim hq
    | brk => exact False.elim hq
    | cont => exact False.elim hq
theorem call_reprOwn (F : FnOk X.prog X.w X.K X.mg X.base CX k f fd ps sp) (hr : Room (k + 1) X.A) (o : Meth X.K C "__repr__" f) (hb : Binds X.K fd ps []) (hx : Passes CX X E) :
    CallR X (.builtin "repr") (rReprOwn C sp E) := by
  intro pins s σ H xs us Q I r h
  obtain ⟨a, dx, fs, rfl, ea, hsp⟩ := h
  obtain ⟨u, rfl, ru⟩ := vals1 r
  obtain rfl : u = Value.ref a := ru
  obtain ⟨mA, J, _⟩ := ins_get I.hok ea
  obtain ⟨od, J, _⟩ := J.look
  obtain ⟨m, hF⟩ := I.fr
  refine PySem.W.repr_K hr.in1.units0 hF I.ok.mod.kin J o.at_ o.fn ?_
  have hl := F.len _ _ _ _ hsp
  refine wpAny_call (codeAny_mono (F.run X.A.in1 X.stack s H ⟨[.ref a], []⟩ [.ref a] [.ref a] _ E hr.in1 I.env0.in1 (by
    have := hb s [.ref a] I.kIn (by simpa using hl)
    simpa using this) (.cons rfl .nil) hsp) fun r s' hq => ?_)
  cases r with
  | error e => exact hx pins σ H s e s' I hq
  | ok fl =>
    cases fl with
    | ret w =>
      obtain ⟨z, H', I', rz, y, ez, q⟩ := I.after hq
      subst ez
      obtain ⟨t, rfl⟩ := rz
      exact ⟨.str y, H', I', ⟨t, rfl⟩, q⟩
    | next => exact False.elim hq
    | brk => exact False.elim hq
    | cont => exact False.elim hq
theorem units1 {k : Nat} {A : Around} (hr : Room k A) : A.units + 1 < cLine := by
  have := hr.un
  omega
/-- {x}: a text, an int or None -/
def tFmtN (te : TE) : TE := fun σ H Q => te σ H fun x H1 => (∃ y : Str, x = .str y ∧ y.length ≤ sizeLine ∧ Q (.str y) H1) ∨ (∃ i : Int, x = .int i ∧ i.natAbs.log2 < 1920 ∧ Q (.str (toString i)) H1) ∨ (x = .non ∧ Q (.str "None") H1)
theorem pe_fmtN {e : Expr} {te : TE} {pos : Pos} (he : PE X e te) : PE X (.FormattedValue e (-1) none pos) (tFmtN te) := by
  refine ⟨fun pins s σ H Q I h => ?_⟩
  refine wpAny_FormattedValue_plain (thn (he.run pins s σ H _ I h) fun v s1 hv => ?_)
  obtain ⟨x, H1, I1, r1, q⟩ := hv
  rcases q with ⟨y, rfl, hz, q⟩ | ⟨i, rfl, hz, q⟩ | ⟨rfl, q⟩
  · obtain ⟨t, rfl⟩ := r1
    exact wpAny_formatField_str ⟨.str y, H1, I1, ⟨t, rfl⟩, q⟩ ⟨.str y, H1, I1.tok _, ⟨_, rfl⟩, q⟩ hz
  · obtain ⟨t, rfl⟩ := r1
    exact wpAny_formatField_int hz ⟨.str (toString i), H1, I1.tok _, ⟨_, rfl⟩, q⟩
  · cases r1
    exact wpAny_formatField_none ⟨.str "None", H1, I1.tok _, ⟨_, rfl⟩, q⟩
/-- str(None), str(int) -/
def rStrIN : List V → Hp → VK → Prop := fun xs H Q => (∃ i : Int, xs = [.int i] ∧ i.natAbs.log2 < 1920 ∧ Q (.str (toString i)) H) ∨ (xs = [.non] ∧ Q (.str "None") H)
theorem call_strIN : CallR X (.type "str") rStrIN := by
  intro pins s σ H xs us Q I r h
  rcases h with ⟨i, rfl, hz, q⟩ | ⟨rfl, q⟩
  · obtain ⟨u, rfl, t, rfl⟩ := vals1 r
    exact PySem.P.str_of_int hz ⟨.str _, H, I.tok _, ⟨_, rfl⟩, q⟩
  · obtain ⟨u, rfl, ru⟩ := vals1 r
    cases ru
    exact PySem.P.str_of_none ⟨.str _, H, I.tok _, ⟨_, rfl⟩, q⟩
end
end VN

/-! Own errors over any built-in base, with an __init__ that is walked as a def: made, raised, asked. -/
namespace VX
open PySem PySem.Spec PyProof.Rows L2
/-- a built-in base of errors -/
structure Bs (B newId initId : String) (bmB : List Value) : Prop where
  bs : ExcBaseFacts B newId initId bmB
  st : StoreFacts B bmB "object.__setattr__" "object"
theorem bsV : Bs "ValueError" "ValueError.__new__" "ValueError.__init__" [.type "ValueError", .type "Exception", .type "BaseException", .type "object"] := ⟨F.excBase_ValueError, F.store_ValueError⟩
theorem bsR : Bs "RuntimeError" "RuntimeError.__new__" "RuntimeError.__init__" [.type "RuntimeError", .type "Exception", .type "BaseException", .type "object"] := ⟨F.excBase_RuntimeError, F.store_RuntimeError⟩
theorem bsL : Bs "LookupError" "LookupError.__new__" "LookupError.__init__" [.type "LookupError", .type "Exception", .type "BaseException", .type "object"] := ⟨F.excBase_LookupError, F.store_LookupError⟩
theorem bsA : Bs "ArithmeticError" "ArithmeticError.__new__" "ArithmeticError.__init__" [.type "ArithmeticError", .type "Exception", .type "BaseException", .type "object"] := ⟨F.excBase_ArithmeticError, F.store_ArithmeticError⟩
/-- what the written part says of an own class of errors -/
structure Own (K : PySem.W.Frag) (C : Addr) : Prop where
  base : ∃ B newId initId bmB, Bs B newId initId bmB ∧ PySem.W.excInitIn K C bmB newId = true ∧ PySem.W.excOver K C bmB = true
  hasD : PySem.W.hasDictIn K C = true
  setA : PySem.W.findIn K (.ref C) "__setattr__" = some (some (.builtin "object.__setattr__"))
  isE : PySem.W.subIn K (.ref C) (.type "BaseException") = some true
  isT : PySem.W.typeIn K (.ref C) = some (.type "type")
  keep : PySem.W.keepIn K (.ref C) = true

section
variable {prog : Program} {w : World} {A : Around} {R : Result → Shared → Prop} {hp : Heap} {g : Array GenState} {d : Drawn} {t : Nat} {os : OsState} {K : PySem.W.Frag} {x C : Addr} {f : Str} {tk : Tok} {v : Value} {fv : Array Value}
open Builtin Builtin.ObjectAttr PySem.W PySem.Calls
theorem own_cls (O : Own K C) : ∃ cd, clsIn K C = some cd ∧ cd.hasDict = true := any_some O.hasD
/-- the first field: the dict is laid -/
theorem st_first (O : Own K C) (X : K.In hp) (hx : hp.get? x = some { cls := .ref C, data := .fields fv }) (no : findIn K (.ref C) f = some none)
    (q : ∀ h2 tk2 dj, (∀ b o, b ≠ x → hp.get? b = some o → h2.get? b = some o) → hp.objs.size ≤ dj → dj ≠ x → h2.get? x = some { cls := .ref C, dict := some dj, data := .fields fv } →
      h2.Ns1 dj (fun y => if y = f then some v else none) → R (.ok (.ret .none)) ⟨h2, g, d, tk2, os⟩) :
    codeAny (model prog w) A (.call (.builtin "object.__setattr__") ⟨[.ref x, .str f tk, v], []⟩) R ⟨hp, g, d, t, os⟩ := by
  obtain ⟨B, nI, iI, bmB, S, _, ov⟩ := O.base
  obtain ⟨cd, hc, hh⟩ := own_cls O
  have J : InstAt hp x { cls := .ref C, data := .fields fv } C none := ⟨hx, rfl, rfl, trivial⟩
  have far : x ≠ hp.objs.size := Nat.ne_of_lt (Heap.lt_size hx)
  have look : Looks (model prog w) hp (classData C) cd := looks_clsIn X hc
  refine osa_openX (r := none) S.st X J ov (by unfold takerIn; rw [no]; rfl) fun b => ?_
  obtain ⟨nm, bs, mro, ns, qn, hd, sn, sb, ab, col, del⟩ := cd
  dsimp only at hh
  subst hh
  show wpAny _ _ (storeInOwnDict (.ref x) (.ref C) (.str f tk) f v b) _ _ _
  unfold storeInOwnDict ownDictForStores
  repeat (first | with_reducible refine HandSPX.store_in_new ?_ ?_ | with_reducible refine wpAny_loadPart_at hx ?_ | with_reducible refine look.at ?_ | wp_step)
  · exact ⟨_, #[], _, (Heap.get?_update_ne _ _ _ _ far.symm).trans (Heap.get?_push_at rfl rfl), rfl, fun e he => absurd he (by simp), fun _ => rfl⟩
  · intro h2 tk2 ns2 same
    have there : (hp.push { cls := .type "dict", data := .dict #[] }).get? x = some { cls := .ref C, data := .fields fv } := Heap.get?_push_of_some _ hx
    exact q h2 tk2 hp.objs.size
      (fun b o nb e => (same.2 b (Nat.ne_of_lt (Heap.lt_size e))).trans ((Heap.get?_update_ne _ _ _ _ nb).trans (Heap.get?_push_of_some _ e)))
      (Nat.le_refl _) far.symm ((same.2 x far).trans (Heap.get?_update_self _ there rfl)) ns2
/-- a further field -/
theorem st_more {dj : Addr} {m0 : Str → Option Value} {nl : List Str} (O : Own K C) (X : K.In hp) (hx : hp.get? x = some { cls := .ref C, dict := some dj, data := .fields fv }) (hn : hp.Ns1 dj m0) (hw : Within m0 nl) (hz : nl.length ≤ 1000)
    (no : findIn K (.ref C) f = some none)
    (q : ∀ h2 tk2, (∀ b o, b ≠ dj → hp.get? b = some o → h2.get? b = some o) → h2.Ns1 dj (fun y => if y = f then some v else m0 y) → R (.ok (.ret .none)) ⟨h2, g, d, tk2, os⟩) :
    codeAny (model prog w) A (.call (.builtin "object.__setattr__") ⟨[.ref x, .str f tk, v], []⟩) R ⟨hp, g, d, t, os⟩ := by
  obtain ⟨B, nI, iI, bmB, S, _, ov⟩ := O.base
  obtain ⟨cd, hc, hh⟩ := own_cls O
  obtain ⟨od, _, _, hod, _, _⟩ := hn.count hw
  have J : InstAt hp x { cls := .ref C, dict := some dj, data := .fields fv } C (some od) := ⟨hx, rfl, rfl, hod⟩
  have look : Looks (model prog w) hp (classData C) cd := looks_clsIn X hc
  refine osa_openX (r := none) S.st X J ov (by unfold takerIn; rw [no]; rfl) fun b => ?_
  obtain ⟨nm, bs, mro, ns, qn, hd, sn, sb, ab, col, del⟩ := cd
  dsimp only at hh
  subst hh
  show wpAny _ _ (storeInOwnDict (.ref x) (.ref C) (.str f tk) f v b) _ _ _
  unfold storeInOwnDict ownDictForStores
  repeat (first | with_reducible refine OEX.store_in_old hn hw hz ?_ | with_reducible refine wpAny_loadPart_at hx ?_ | with_reducible refine look.at ?_ | wp_step)
  exact fun h2 tk2 ns2 same => q h2 tk2 (fun b o nb e => (same.2 b nb).trans e) ns2
end

section
variable {X : Cx} {pins : List (Addr × Obj)} {σ : L2.St} {H : Hp} {s : Shared} {a C dj : Addr} {f : Str} {y : V} {u : Value} {fs : List (Str × V)} {Q : Unit → Shared → Prop} {E : Value → Shared → Prop} {A : Around}
/-- self.f = y on a new error -/
theorem put_first (O : Own X.K C) (I : Inv X pins σ H s) (e : H a = some (exo a C none)) (no : PySem.W.findIn X.K (.ref C) f = some none) (ry : RelV y u)
    (k : ∀ dj s2, H dj = none → dj ≠ a → Inv X pins σ (upd (upd H dj (exd dj [(f, y)])) a (exo a C (some dj))) s2 → Q () s2) : wpAny (model X.prog X.w) A (setAttr (.ref a) f u) Q E s := by
  obtain ⟨t1, ho⟩ := exo_at I.hok e
  obtain ⟨hp, g, d, t, os⟩ := s
  refine PySem.W.set_plain I.kIn (od := none) ⟨ho, rfl, rfl, trivial⟩ O.setA (st_first O I.kIn ho no fun h2 tk2 dj kp big nda hx hn => ?_)
  have free : H dj = none := I.hok.fresh big
  have far : ∀ {b : Addr} {o : Obj}, hp.get? b = some o → b ≠ dj := fun q => Nat.ne_of_lt (Nat.lt_of_lt_of_le (Heap.lt_size q) big)
  have nota : ∀ {b : Addr}, H b = none → b ≠ a := fun n z => by rw [z, e] at n; cases n
  have same : ∀ b u0, b ≠ a → H b = some u0 → upd (upd H dj (exd dj [(f, y)])) a (exo a C (some dj)) b = some u0 := fun b u0 nb q => by rw [upd_ne nb, upd_ne (ne_of_none q free)]; exact q
  refine k dj _ free nda (I.un (t' := tk2) ⟨fun b o q n _ _ => kp b o (nota n) q, fun b o q n _ _ => ⟨o.slots, kp b o (nota n) q⟩,
    fun b o q n _ => by rw [upd_ne (nota n), upd_ne (far q)]; exact n,
    fun b o q _ => if z : b = a then ⟨_, z ▸ hx⟩ else ⟨o, kp b o z q⟩,
    fun b xs q => same b _ (at_ne e q exo_tup) q, fun b o v q => same b _ (at_ne e q exo_frz) q, fun b ps q => ⟨#[], by rw [same b _ (at_ne e q exo_tbl) q]; simp⟩⟩ fun b o q => ?_)
  by_cases z : b = a
  · subst z; rw [upd_same] at q; cases q; exact exo_ok hx
  · rw [upd_ne z] at q
    by_cases z2 : b = dj
    · subst z2; rw [upd_same] at q; cases q
      exact exd_ok hn (relO_put (fs := []) ry fun _ => True.intro)
    · rw [upd_ne z2] at q
      refine (I.hok b o q).stay (fun c v hc w => kp c v ?_ w) (fun c hc => same c _ (at_ne e hc exo_own) hc) fun c xs hc => same c _ (at_ne e hc exo_tup) hc
      rcases hc with hc | hc
      · rw [hc]; exact z
      · exact at_ne e hc exo_own
/-- self.f = y, a further field -/
theorem put_more (O : Own X.K C) (I : Inv X pins σ H s) (e : H a = some (exo a C (some dj))) (ed : H dj = some (exd dj fs)) (hl : fs.length ≤ 900) (no : PySem.W.findIn X.K (.ref C) f = some none) (ry : RelV y u)
    (k : ∀ s2, Inv X pins σ (upd H dj (exd dj ((f, y) :: fs))) s2 → Q () s2) : wpAny (model X.prog X.w) A (setAttr (.ref a) f u) Q E s := by
  obtain ⟨t1, ho⟩ := exo_at I.hok e
  obtain ⟨mA, hn, rel⟩ := exd_at I.hok ed
  have hw := within_of rel
  obtain ⟨hp, g, d, t, os⟩ := s
  obtain ⟨od, _, _, hod, _, _⟩ := hn.count hw
  refine PySem.W.set_plain I.kIn (od := some od) ⟨ho, rfl, rfl, hod⟩ O.setA (st_more O I.kIn ho hn hw (by rw [List.length_map]; omega) no fun h2 tk2 kp hn2 => ?_)
  have hd : ∃ o, h2.get? dj = some o := by obtain ⟨o, _, _, z, _⟩ := hn2; exact ⟨o, z⟩
  exact k _ (I.write (t' := tk2) (x := dj) (e := dj) (by rw [ed]; exact True.intro) (.inl rfl) kp hd (exd_ok hn2 (relO_put ry rel)))
end

/-- self.f = e in an error's __init__ -/
def tPut (K : PySem.W.Frag) (f : Str) (to te : TE) : TS := fun D σ H => te σ H fun y H1 => to σ H1 fun x H2 => ∃ a C : Addr, x = .ref a ∧ Own K C ∧ PySem.W.findIn K (.ref C) f = some none ∧
  ((H2 a = some (exo a C none) ∧ ∀ dj, H2 dj = none → dj ≠ a → D.nx σ (upd (upd H2 dj (exd dj [(f, y)])) a (exo a C (some dj)))) ∨
    ∃ (dj : Addr) (fs : List (Str × V)), H2 a = some (exo a C (some dj)) ∧ H2 dj = some (exd dj fs) ∧ fs.length ≤ 900 ∧ D.nx σ (upd H2 dj (exd dj ((f, y) :: fs))))
/-- C(e, ..), by C's own __init__ -/
def tNew (C : Addr) (sp : Sp) (ta : TA) : L2.St → Hp → XK → Prop := fun σ H Q => ta σ H fun vs H1 => vs.length ≤ 1000 ∧ ∀ a, H1 a = none → sp (.ref a :: vs) (upd H1 a (exo a C none))
  (fun v H2 => v = .non ∧ ∃ (d : Addr) (fs : List (Str × V)), H2 a = some (exo a C (some d)) ∧ H2 d = some (exd d fs) ∧ H1 d = none ∧ Q (.ref C) (some d) (upd (del H2 a) d (.xd fs))) (fun _ _ _ => False)
section
variable {X : Cx} {o e : Expr} {es : List Expr} {to te : TE} {ta : TA} {f : Str} {p p' pos : Pos}
theorem ps_put (ho : PE X o to) (he : PE X e te) (hs : swapsWith e (some (.Attribute o f p')) pos.line X.env = pure false := by rfl) : PS X (.Assign [.Attribute o f p'] e pos) (tPut X.K f to te) := by
  refine ⟨fun pins s σ H D I h => plainObj_wpAny_Assign_Attribute (thn (he.run pins s σ H _ I h) ?_) hs⟩
  rintro v s1 ⟨y, H1, I1, r1, q1⟩
  refine thn (ho.run pins s1 σ H1 _ I1 q1) ?_
  rintro u s2 ⟨x, H2, I2, r2, a, C, rfl, O, no, q⟩
  obtain rfl : u = Value.ref a := r2
  rcases q with ⟨ea, q⟩ | ⟨dj, fs, ea, ed, hl, q⟩
  · exact put_first O I2 ea no r1 fun dj s3 n ne J => ⟨σ, _, J, q dj n ne⟩
  · exact put_more O I2 ea ed hl no r1 fun s3 J => ⟨σ, _, J, q⟩
theorem pmk_new {CX : CXT} {x : Str} {C fI : Addr} {k : Nat} {fd : FuncData} {ps : List Str} {sp : Sp} (O : Own X.K C) (iC : PySem.W.findIn X.K (.ref C) "__init__" = some (some (.ref fI))) (tI : PySem.W.typeIn X.K (.ref fI) = some (.type "function"))
    (Fi : FnOk X.prog X.w X.K X.mg X.base CX k fI fd ps sp) (hr : Room (k + 1) X.A) (hb : Binds X.K fd ps []) (hx : Passes CX X (fun _ _ _ => False)) (hg : Gl X x) (hm : X.mg x = some (.ref C)) (ha : PA X (e :: es) ta)
    (hdb : (x == ("__debug__" : Str)) = false := by decide) (he : starEach (e :: es) X.env = (false, eval e X.env) :: starEach es X.env := by rfl) (hpl : (backTo pos (starEach es X.env)).any (·.1) = false := by rfl) :
    PMk X (.Call (.Name x p) (e :: es) [] pos) (tNew C sp ta) := by
  intro pins s σ H Q I h
  obtain ⟨B, nI, iI, bmB, S, ini, _⟩ := O.base
  refine wpAny_Call_Name_kw (ld_glob I hg hm ?_ hdb)
  refine PySem.W.callWith_K (h₀ := X.base) I.ok.mod.kin O.keep (thn (ha.run pos pins s σ H _ I h) ?_) he hpl
  rintro us ⟨hp, g, dr, tk, os⟩ ⟨vs, H1, I1, r1, hz, q1⟩
  refine ⟨I1.kIn, ?_⟩
  show wpAny _ _ (call (.ref C) us) _ _ _
  obtain ⟨nm, N, qn, bs, bm, hdct, sn, sub, ab, col, dd, k0, k1, k2, k3, k5, hC, tail⟩ := PySem.W.excInit_of I1.kIn ini
  have up : hp.objs.size ≤ hp.objs.size + 1 := Nat.le_succ _
  have want := q1 (hp.objs.size + 1) (I1.hok.fresh up)
  have kept : ∀ b o, hp.get? b = some o → ((hp.push (PySem.W.kdv_tup us)).push (HandSPX.excO C hp.objs.size)).get? b = some o := fun b o z => Heap.get?_push_of_some _ (Heap.get?_push_of_some _ z)
  have new : ((hp.push (PySem.W.kdv_tup us)).push (HandSPX.excO C hp.objs.size)).get? (hp.objs.size + 1) = some (HandSPX.excO C hp.objs.size) := by heap_get
  have J : Inv X pins σ (upd H1 (hp.objs.size + 1) (exo (hp.objs.size + 1) C none)) ⟨(hp.push (PySem.W.kdv_tup us)).push (HandSPX.excO C hp.objs.size), g, dr, tk, os⟩ := I1.laid (t' := tk) kept up (exo_ok new)
  have rel : Vals (V.ref (hp.objs.size + 1) :: vs) (Value.ref (hp.objs.size + 1) :: us) := .cons rfl r1
  have len : (Value.ref (hp.objs.size + 1) :: us).length = ps.length := rel.length.symm.trans (Fi.len _ _ _ _ want)
  have bind := hb _ (Value.ref (hp.objs.size + 1) :: us) J.kIn (by rw [List.append_nil]; exact len)
  rw [List.append_nil] at bind
  refine wpAny_call (HandSPX.call_own S.bs tail hC (PySem.W.looks_findIn I1.kIn iC) (fun self => PySem.W.bind_fn I1.kIn self tI) (by rw [← Paired.length r1, sizeLine_eq]; omega)
    (codeAny_mono (Fi.run _ X.stack _ _ ⟨Value.ref (hp.objs.size + 1) :: us, []⟩ _ _ _ (fun _ _ _ => False) (hr.make C us []) (J.env0.make C us []) bind rel want) ?_))
  intro r s' w
  match r, w with
  | .error er, w => exact hx pins σ _ _ er s' J w
  | .ok .next, w => exact False.elim w
  | .ok .brk, w => exact False.elim w
  | .ok .cont, w => exact False.elim w
  | .ok (.ret u), w =>
    obtain ⟨v, H2, os2, bare2, un2, hok2, rv, rfl, d, fs, ea, ed, free, q2⟩ := w
    obtain ⟨h2, g2, d2, t2, os'⟩ := s'
    exact ⟨rv, mk_end (raises_own O.isE O.isT) I1 up kept un2 hok2 os2 bare2 ea ed free q2⟩
end

/-! ### what is asked of a caught error -/
structure Asked (K : PySem.W.Frag) (D : Addr) : Prop where
  cl : (PySem.W.clsIn K D).isSome = true
  ga : PySem.W.findIn K (.ref D) "__getattribute__" = some (some (.builtin "BaseException.__getattribute__"))
  gt : PySem.W.findIn K (.ref D) "__getattr__" = some none
  sb : PySem.W.subIn K (.ref D) (.type "BaseException") = some true
  cc : PySem.W.findIn K (.ref D) "__class__" = some (some (.builtin "object.__class__"))
  gn : PySem.W.specialIn K (.builtin "object.__class__") "__get__" = some (some (.builtin "getset_descriptor.__get__"))
  tk : PySem.W.takesIn K (.builtin "object.__class__") = some true
  mr : PySem.W.mroIn K D (.type "object") = some true
theorem isC {K : PySem.W.Frag} {C : Addr} (h : PySem.W.hasDictIn K C = true) : (PySem.W.clsIn K C).isSome = true := by
  obtain ⟨cd, e, _⟩ := PySem.W.any_some h
  rw [e]
  rfl
/-- isinstance(e, c), isinstance(e, (c, ..)) -/
def rAsk (K : PySem.W.Frag) (a : Addr) (cls : Value) (d : Option Addr) (D : Addr) : List V → Hp → VK → Prop := fun xs H Q => cls = .ref D ∧ ∃ (dj : Addr) (fs : List (Str × V)) (c : V) (b : Bool), d = some dj ∧ H dj = some (.xd fs) ∧ xs = [.ref a, c] ∧
  ((∃ cv, (∀ u, RelV c u → u = cv) ∧ PySem.W.kitOne K (.ref D) cv = some b) ∨ ∃ (tp : Addr) (cs : List V) (us : List Value), c = .ref tp ∧ H tp = some (.tup cs) ∧ (∀ ws, Vals cs ws → ws = us) ∧ PySem.W.kitAny K (.ref D) us = some b) ∧ Q (.bl b) H
theorem call_ask {X : Cx} {a D : Addr} {oe : Obj} {cls : Value} {d : Option Addr} {pn : List (Addr × Obj)} (C : Asked X.K D) (hz : Zc cls d oe) (hf : ∃ vs, oe.data = .fields vs) : CallR (X.suite a ((a, oe) :: pn)) (.builtin "isinstance") (rAsk X.K a cls d D) := by
  intro pins s σ H xs us Q I r h
  obtain ⟨rfl, dj, fs, c, b, rfl, hd, rfl, ask, q⟩ := h
  obtain ⟨u1, u2, rfl, r1, r2⟩ := vals2 r
  obtain rfl : u1 = Value.ref a := r1
  obtain ⟨there, _⟩ := I.pin (a, oe) (List.mem_append.mpr (.inl List.mem_cons_self))
  obtain ⟨vs, hv⟩ := hf
  have low : ObjOk X.prog X.w H s.heap dj (.xd fs) := I.hok dj _ hd
  obtain ⟨mA, ⟨od, es, ep, ho, _⟩, _⟩ := low
  have J : PySem.W.InstAt s.heap a oe D (some od) := ⟨there, hz.1, by unfold PySem.W.notCls; rw [hv] <;> rfl, by rw [hz.2]; exact ho⟩
  have Z := PySem.W.kitx_exc (x := a) (ox := oe) (od := some od) C.cl C.ga C.gt C.sb C.cc C.gn C.tk C.mr
  have fin : ∀ tk : Nat, EP (X.suite a ((a, oe) :: pn)) pins σ Q (.bool b) { s with toks := tk } := fun tk => ⟨.bl b, H, I.kept (t' := tk) fun _ _ z => z, rfl, q⟩
  rcases ask with ⟨cv, hc, e⟩ | ⟨tp, cs, ws, rfl, ht, hc, e⟩
  · rw [hc u2 r2]
    exact PySem.W.kia_one Z I.kIn J e (fun z => nomatch z) fin
  · obtain rfl : u2 = Value.ref tp := r2
    have tup : ObjOk X.prog X.w H s.heap tp (.tup cs) := I.hok tp _ ht
    obtain ⟨_, its, rv, o, h1, h2, n, h3⟩ := tup
    rw [← hc its rv] at e
    obtain ⟨oc, oda, dt, sl⟩ := o
    simp only at h2 h3
    subst h2 h3
    exact PySem.W.kia_tup Z I.kIn J h1 e (fun z => nomatch z) fin
end VX

/-! The greatest number of units in windows; the form of such a curve; curves at most others; plain Lean. -/
namespace VM
def maxTo (g : Nat → Int) : Nat → Int
  | 0 => g 0
  | n + 1 => max (maxTo g n) (g (n + 1))
theorem maxTo_ge {g : Nat → Int} : ∀ {n i : Nat}, i ≤ n → g i ≤ maxTo g n
  | 0, i, h => by have : i = 0 := by omega
                  subst this; exact Int.le_refl _
  | n + 1, i, h => by
    unfold maxTo
    by_cases c : i = n + 1
    · subst c; omega
    · have := maxTo_ge (g := g) (n := n) (i := i) (by omega)
      omega
theorem maxTo_at {g : Nat → Int} : ∀ n : Nat, ∃ i, i ≤ n ∧ maxTo g n = g i
  | 0 => ⟨0, Nat.le_refl _, rfl⟩
  | n + 1 => by
    obtain ⟨i, hi, e⟩ := maxTo_at (g := g) n
    unfold maxTo
    by_cases c : maxTo g n ≤ g (n + 1)
    · exact ⟨n + 1, Nat.le_refl _, by omega⟩
    · exact ⟨i, by omega, by omega⟩
theorem maxTo_is {g : Nat → Int} {n : Nat} {m : Int} (h : m ∈ (List.range (n + 1)).map g) (h2 : ∀ y ∈ (List.range (n + 1)).map g, y ≤ m) : m = maxTo g n := by
  obtain ⟨i, hi, e⟩ := maxTo_at (g := g) n
  obtain ⟨j, hj, ej⟩ := List.mem_map.mp h
  have a := h2 (g i) (List.mem_map.mpr ⟨i, List.mem_range.mpr (by omega), rfl⟩)
  have b := maxTo_ge (g := g) (n := n) (i := j) (by have := List.mem_range.mp hj; omega)
  omega
/-- the greatest number of units in k successive ticks -/
def mostM (us : List Int) (k : Nat) : Int := if us.length ≤ k then us.sum else maxTo (fun s => win us s k) (us.length - k)
theorem win_all {us : List Int} : win us ((0 : Nat) : Int) us.length = us.sum := by
  unfold win
  rw [show ((0 : Nat) : Int) + (us.length : Int) = us.length by omega, pre_all, show ((0 : Nat) : Int) = 0 from rfl, pre_zero]
  omega
theorem most_ge {us : List Int} {s k : Nat} (h : s + k ≤ us.length) : win us s k ≤ mostM us k := by
  unfold mostM
  by_cases c : us.length ≤ k
  · rw [if_pos c]
    have e : s = 0 := by omega
    have e2 : k = us.length := by omega
    subst e e2
    rw [win_all]
    exact Int.le_refl _
  · rw [if_neg c]
    exact maxTo_ge (g := fun s => win us s k) (n := us.length - k) (i := s) (by omega)
theorem most_at {us : List Int} {k : Nat} (h : k ≤ us.length) : ∃ s : Nat, s + k ≤ us.length ∧ mostM us k = win us s k := by
  unfold mostM
  by_cases c : us.length ≤ k
  · rw [if_pos c]
    have e2 : k = us.length := by omega
    subst e2
    exact ⟨0, by omega, win_all.symm⟩
  · rw [if_neg c]
    obtain ⟨s, hs, e⟩ := maxTo_at (g := fun s : Nat => win us s k) (us.length - k)
    exact ⟨s, by omega, e⟩
theorem most_far {us : List Int} {k : Nat} (h : us.length ≤ k) : mostM us k = us.sum := by unfold mostM; rw [if_pos h]
theorem pre_mono {us : List Int} (N : ∀ u ∈ us, 0 ≤ u) (i : Nat) (h : i < us.length) : pre us i ≤ pre us ((i : Int) + 1) := by
  rw [pre_step h]
  have := N us[i] (List.getElem_mem h)
  rw [List.getD_eq_getElem?_getD, List.getElem?_eq_getElem h]
  show _ ≤ _ + us[i]
  omega
theorem most_zero {us : List Int} : mostM us 0 = 0 := by
  obtain ⟨s, hs, e⟩ := most_at (us := us) (k := 0) (Nat.zero_le _)
  rw [e]
  unfold win
  rw [show (s : Int) + ((0 : Nat) : Int) = s by omega]
  omega
theorem most_up {us : List Int} (N : ∀ u ∈ us, 0 ≤ u) (k : Nat) : mostM us k ≤ mostM us (k + 1) := by
  by_cases c : us.length ≤ k
  · rw [most_far c, most_far (by omega)]
    exact Int.le_refl _
  · obtain ⟨s, hs, e⟩ := most_at (us := us) (k := k) (by omega)
    rw [e]
    by_cases d : s + (k + 1) ≤ us.length
    · have a := most_ge (us := us) (s := s) (k := k + 1) d
      have b := pre_mono N (s + k) (by omega)
      unfold win at a ⊢
      rw [show (s : Int) + ((k + 1 : Nat) : Int) = ((s + k : Nat) : Int) + 1 by omega] at a
      rw [show (s : Int) + (k : Int) = ((s + k : Nat) : Int) by omega]
      omega
    · have a := most_ge (us := us) (s := s - 1) (k := k + 1) (by omega)
      have b := pre_mono N (s - 1) (by omega)
      unfold win at a ⊢
      rw [show ((s - 1 : Nat) : Int) + ((k + 1 : Nat) : Int) = (s : Int) + k by omega] at a
      rw [show ((s - 1 : Nat) : Int) + 1 = (s : Int) by omega] at b
      omega
theorem most_mono {us : List Int} (N : ∀ u ∈ us, 0 ≤ u) (a : Nat) : ∀ d : Nat, mostM us a ≤ mostM us (a + d)
  | 0 => Int.le_refl _
  | d + 1 => Int.le_trans (most_mono N a d) (most_up N (a + d))
theorem most_nn {us : List Int} (N : ∀ u ∈ us, 0 ≤ u) (a : Nat) : 0 ≤ mostM us a := by
  have := most_mono N 0 a
  rw [most_zero, Nat.zero_add] at this
  exact this
theorem most_sum {us : List Int} (N : ∀ u ∈ us, 0 ≤ u) (a : Nat) : mostM us a ≤ us.sum := by
  by_cases c : us.length ≤ a
  · rw [most_far c]; exact Int.le_refl _
  · have := most_mono N a (us.length - a)
    rw [most_far (us := us) (k := a + (us.length - a)) (by omega)] at this
    exact this
/-- the function of the tightest curve -/
def tF (us : List Int) (t : Int) : Int := mostM us t.toNat
theorem tF_zero {us : List Int} : tF us 0 = 0 := most_zero
theorem tF_nat {us : List Int} {k : Nat} : tF us k = mostM us k := by unfold tF; rw [Int.toNat_natCast]
theorem most_add {us : List Int} (N : ∀ u ∈ us, 0 ≤ u) (a b : Nat) : mostM us (a + b) ≤ mostM us a + mostM us b := by
  have key : ∀ k a b : Nat, k ≤ us.length → k = a + b → mostM us k ≤ mostM us a + mostM us b := fun k a b hk e => by
    obtain ⟨s, hs, q⟩ := most_at (us := us) hk
    have w1 := most_ge (us := us) (s := s) (k := a) (by omega)
    have w2 := most_ge (us := us) (s := s + a) (k := b) (by omega)
    rw [q]
    unfold win at *
    rw [show ((s + a : Nat) : Int) + (b : Int) = (s : Int) + k by omega] at w2
    rw [show ((s + a : Nat) : Int) = (s : Int) + a by omega] at w2
    omega
  by_cases c : a + b ≤ us.length
  · exact key _ a b c rfl
  · by_cases d : us.length ≤ a
    · have := most_nn N b
      rw [most_far (by omega), most_far d]
      omega
    · have z := key us.length a (us.length - a) (Nat.le_refl _) (by omega)
      have y := most_mono N (us.length - a) (b - (us.length - a))
      rw [show us.length - a + (b - (us.length - a)) = b by omega] at y
      rw [most_far (us := us) (k := a + b) (by omega)]
      rw [most_far (us := us) (k := us.length) (Nat.le_refl _)] at z
      omega
/-- the values that the package writes first -/
def tV (us : List Int) : List Int := if us = [] then [0] else vals (tF us) us.length
theorem tV_length {us : List Int} : (tV us).length = max us.length 1 := by
  unfold tV
  by_cases c : us = []
  · subst c; rfl
  · rw [if_neg c, vals_length]
    have : us.length ≠ 0 := fun z => c (List.length_eq_zero_iff.mp z)
    omega
theorem tV_at {us : List Int} : ∀ t : Int, 0 ≤ t → cvAt (tV us) 1 0 t = tF us t := by
  have R : Rep (tF us) (max us.length 1 : Nat) 1 0 := fun t ht => by
    unfold tF
    rw [most_far (by omega), most_far (by omega)]
    omega
  by_cases c : us = []
  · intro t ht
    subst c
    have e : tF [] = fun _ => 0 := by funext t; unfold tF; rw [most_far (Nat.zero_le _)]; rfl
    rw [e]
    have R0 : Rep (cvAt (tV []) 1 0) ((tV []).length : Nat) 1 0 := Rep.cvAt (by decide) (by decide)
    obtain ⟨n, rfl⟩ : ∃ n : Nat, t = n := ⟨t.toNat, by omega⟩
    induction n with
    | zero => exact cvAt_zero
    | succ n ih =>
      by_cases z : n = 0
      · subst z; rfl
      · rw [R0 _ (by show (((tV []).length : Nat) : Int) < _; rw [tV_length]; show ((max 0 1 : Nat) : Int) < _; omega), show ((n + 1 : Nat) : Int) - 1 = n by omega, ih (by omega)]
        rfl
  · have n0 : us.length ≠ 0 := fun z => c (List.length_eq_zero_iff.mp z)
    unfold tV
    rw [if_neg c]
    rw [show max us.length 1 = us.length by omega] at R
    exact cvAt_vals (by decide) (by omega) tF_zero R
theorem tV_p {us : List Int} : formP (tV us) 1 0 = (1, 0) := by
  show leastFrom _ _ _ (1 - 1 : Int).toNat 1 = _
  rw [show ((1 : Int) - 1).toNat = 0 from rfl]
  unfold leastFrom
  have R0 : Rep (cvAt (tV us) 1 0) ((tV us).length : Nat) 1 0 := Rep.cvAt (by decide) (by rw [tV_length]; omega)
  rw [R0 _ (by omega), show (((tV us).length : Nat) : Int) + 1 - 1 = (tV us).length by omega]
  congr 1
  omega
theorem shr_congr {f g : Int → Int} {s : Int} : ∀ m : Nat, (∀ t : Int, 0 ≤ t → f t = g t) → shr f 1 s m = shr g 1 s m
  | 0, _ => rfl
  | m + 1, h => by
    unfold shr
    rw [h _ (by omega), h (((m + 1 : Nat) : Int) - 1) (by omega), shr_congr m h]
theorem vals_congr {f g : Int → Int} {m : Nat} (h : ∀ t : Int, 0 ≤ t → f t = g t) : vals f m = vals g m := by
  unfold vals
  exact List.map_congr_left fun i _ => h _ (by omega)
/-- the form of the tightest curve -/
def tM (us : List Int) : Nat := shr (tF us) 1 0 (us.length + 1)
def tW (us : List Int) : List Int := vals (tF us) (tM us)
theorem tM_eq {us : List Int} : formM (tV us) 1 0 = tM us := by
  unfold formM tM
  rw [tV_p, shr_congr (g := tF us) _ tV_at, tV_length]
  by_cases c : us.length = 0
  · rw [c]; rfl
  · have : shr (tF us) 1 0 (us.length + 1) = shr (tF us) 1 0 us.length := by
      show (if (1 : Int) < ((us.length + 1 : Nat) : Int) ∧ _ then _ else _) = _
      rw [if_pos]
      refine ⟨by omega, ?_⟩
      rw [tF_nat, show ((us.length + 1 : Nat) : Int) - 1 = ((us.length : Nat) : Int) by omega, tF_nat, most_far (by omega), most_far (Nat.le_refl _)]
      omega
    rw [this, show max us.length 1 = us.length by omega]
theorem tW_eq {us : List Int} : formV (tV us) 1 0 = tW us := by
  unfold formV tW
  rw [tM_eq]
  exact vals_congr tV_at
theorem shr_pos {f : Int → Int} : ∀ m : Nat, 1 ≤ m → 1 ≤ shr f 1 0 m ∧ shr f 1 0 m ≤ m
  | 0, h => absurd h (by decide)
  | m + 1, _ => by
    unfold shr
    by_cases c : (1 : Int) < ((m + 1 : Nat) : Int) ∧ f ((m + 1 : Nat) : Int) = f (((m + 1 : Nat) : Int) - 1) + 0
    · rw [if_pos c]
      have := shr_pos (f := f) m (by omega)
      omega
    · rw [if_neg c]; omega
theorem tW_at {us : List Int} : ∀ t : Int, 0 ≤ t → cvAt (tW us) 1 0 t = tF us t := fun t ht => by
  obtain ⟨_, _, _, _, h⟩ := form_spec (vs := tV us) (p := 1) (g := 0) (by decide) (by rw [tV_length]; omega)
  have := h t ht
  rw [tW_eq, tV_p] at this
  rw [this, tV_at t ht]
theorem tW_len {us : List Int} : 1 ≤ (tW us).length ∧ (tW us).length ≤ us.length + 1 := by
  unfold tW
  rw [vals_length]
  exact shr_pos _ (by omega)
theorem tW_kept {us : List Int} : Kept (cvAt (tW us) 1 0) us := fun s k h1 h2 => by
  rw [tW_at _ (by omega), tF_nat]
  exact most_ge h2
theorem tW_good {us : List Int} (N : ∀ u ∈ us, 0 ≤ u) (a b : Int) (ha : 0 ≤ a) (hb : 0 ≤ b) : cvAt (tW us) 1 0 (a + b) ≤ cvAt (tW us) 1 0 a + cvAt (tW us) 1 0 b := by
  rw [tW_at _ (by omega), tW_at _ ha, tW_at _ hb]
  have := most_add N a.toNat b.toNat
  unfold tF
  rw [show (a + b).toNat = a.toNat + b.toNat by omega]
  exact this
/-! ### the record turned round, with an empty tick behind -/
theorem sum_rev (us : List Int) : us.reverse.sum = us.sum := by
  induction us with
  | nil => rfl
  | cons u us ih => rw [List.reverse_cons, List.sum_append, ih, List.sum_cons]; simp; omega
theorem pre_rev {us : List Int} {i : Nat} (h : i ≤ us.length) : pre us.reverse i = us.sum - pre us ((us.length - i : Nat) : Int) := by
  unfold pre
  rw [Int.toNat_natCast, Int.toNat_natCast, List.take_reverse, sum_rev]
  have e := List.take_append_drop (us.length - i) us
  have s : us.sum = (us.take (us.length - i)).sum + (us.drop (us.length - i)).sum := by rw [← List.sum_append, e]
  omega
theorem win_rev {us : List Int} {s k : Nat} (h : s + k ≤ us.length) : win us.reverse s k = win us ((us.length - s - k : Nat) : Int) k := by
  unfold win
  rw [show (s : Int) + (k : Int) = ((s + k : Nat) : Int) by omega, pre_rev h, pre_rev (by omega), show ((us.length - s - k : Nat) : Int) + (k : Int) = ((us.length - s : Nat) : Int) by omega, show us.length - (s + k) = us.length - s - k by omega]
  omega
theorem win_push {us : List Int} {x : Int} {s k : Nat} (h : s + k ≤ us.length) : win (us ++ [x]) s k = win us s k := by
  unfold win
  rw [pre_push (by omega), pre_push (by omega)]
theorem most_back {us : List Int} (N : ∀ u ∈ us, 0 ≤ u) (k : Nat) : mostM (us.reverse ++ [0]) k = mostM us k := by
  have len : (us.reverse ++ [0]).length = us.length + 1 := by rw [List.length_append, List.length_reverse]; rfl
  have sm : (us.reverse ++ [0]).sum = us.sum := by rw [List.sum_append, sum_rev]; simp
  by_cases c : us.length < k
  · rw [most_far (by omega), most_far (by omega), sm]
  · apply Int.le_antisymm
    · obtain ⟨s, hs, e⟩ := most_at (us := us.reverse ++ [0]) (k := k) (by omega)
      rw [len] at hs
      rw [e]
      by_cases d : s + k ≤ us.length
      · rw [win_push (by rw [List.length_reverse]; exact d), win_rev d]
        exact most_ge (by omega)
      · by_cases k0 : k = 0
        · subst k0
          rw [most_zero]
          unfold win
          rw [show (s : Int) + ((0 : Nat) : Int) = s by omega]
          omega
        · have p1 : pre (us.reverse ++ [0]) ((s : Int) + k) = us.sum := by
            rw [pre_last (by rw [List.length_reverse]; omega), pre_all, sum_rev]
            omega
          have p2 : pre (us.reverse ++ [0]) s = us.sum - pre us ((us.length - s : Nat) : Int) := by
            rw [pre_push (by rw [List.length_reverse]; omega), pre_rev (by omega)]
          have w : win (us.reverse ++ [0]) s k = win us ((0 : Nat) : Int) (k - 1 : Nat) := by
            unfold win
            rw [p1, p2, show ((0 : Nat) : Int) + ((k - 1 : Nat) : Int) = ((us.length - s : Nat) : Int) by omega, show ((0 : Nat) : Int) = 0 from rfl, pre_zero]
            omega
          rw [w]
          have a := most_ge (us := us) (s := 0) (k := k - 1) (by omega)
          have b := most_up N (k - 1)
          rw [show k - 1 + 1 = k by omega] at b
          omega
    · obtain ⟨s, hs, e⟩ := most_at (us := us) (k := k) (by omega)
      rw [e]
      have a := most_ge (us := us.reverse ++ [0]) (s := us.length - s - k) (k := k) (by omega)
      rw [win_push (by rw [List.length_reverse]; omega), win_rev (by omega), show us.length - (us.length - s - k) - k = s by omega] at a
      exact a
theorem tW_back {us : List Int} (N : ∀ u ∈ us, 0 ≤ u) : tW (us.reverse ++ [0]) = tW us := by
  have F : tF (us.reverse ++ [0]) = tF us := by
    funext t
    unfold tF
    exact most_back N t.toNat
  have M : tM (us.reverse ++ [0]) = tM us := by
    unfold tM
    rw [F, List.length_append, List.length_reverse]
    show shr (tF us) 1 0 (us.length + 1 + 1) = _
    show (if (1 : Int) < ((us.length + 1 + 1 : Nat) : Int) ∧ _ then _ else _) = _
    rw [if_pos]
    refine ⟨by omega, ?_⟩
    rw [tF_nat, show ((us.length + 1 + 1 : Nat) : Int) - 1 = ((us.length + 1 : Nat) : Int) by omega, tF_nat, most_far (by omega), most_far (by omega)]
    omega
  unfold tW
  rw [F, M]
/-! ### at most -/
/-- is one curve at most another one, as the package looks -/
def amN (n1 n2 : Nat) (p1 p2 : Int) : Nat := (max ((n1 : Int) - p1) ((n2 : Int) - p2) + (Nat.lcm p1.toNat p2.toNat : Nat)).toNat
def amM (f1 f2 : Int → Int) (n1 n2 : Nat) (p1 g1 p2 g2 : Int) : Bool :=
  if g2 * ((Nat.lcm p1.toNat p2.toNat : Nat) / p2) < g1 * ((Nat.lcm p1.toNat p2.toNat : Nat) / p1) then false else
    (List.range (amN n1 n2 p1 p2)).all fun i : Nat => decide (f1 ((i : Int) + 1) ≤ f2 ((i : Int) + 1))
theorem all_iff {n : Nat} {f g : Int → Int} : ((List.range n).all fun i : Nat => decide (f ((i : Int) + 1) ≤ g ((i : Int) + 1))) = true ↔ ∀ t : Int, 1 ≤ t → t ≤ n → f t ≤ g t := by
  rw [List.all_eq_true]
  constructor
  · intro h t h1 h2
    have := of_decide_eq_true (h (t - 1).toNat (List.mem_range.mpr (by omega)))
    rw [show (((t - 1).toNat : Nat) : Int) + 1 = t by omega] at this
    exact this
  · intro h i hi
    exact decide_eq_true (h _ (by omega) (by have := List.mem_range.mp hi; omega))
/-- the tightest curve is at most a curve exactly if the record keeps it -/
theorem am_tight {us : List Int} (N : ∀ u ∈ us, 0 ≤ u) {f : Int → Int} {n2 : Nat} {p g : Int} (hp : 0 < p) (hpn : p ≤ n2) (hg : 0 ≤ g) (h0 : 0 ≤ f 1) (up : ∀ k : Nat, 1 ≤ k → f k ≤ f ((k : Int) + 1)) :
    amM (cvAt (tW us) 1 0) f (tW us).length n2 1 0 p g = (List.range us.length).all fun i : Nat => decide (tF us ((i : Int) + 1) ≤ f ((i : Int) + 1)) := by
  have L : Nat.lcm (1 : Int).toNat p.toNat = p.toNat := by rw [show (1 : Int).toNat = 1 from rfl]; exact Nat.lcm_one_left _
  have fm : ∀ (d k : Nat), 1 ≤ k → f k ≤ f ((k + d : Nat) : Int) := fun d k hk => by
    induction d with
    | zero => exact Int.le_refl _
    | succ d ih =>
      have := up (k + d) (by omega)
      rw [show ((k + d : Nat) : Int) + 1 = ((k + (d + 1) : Nat) : Int) by omega] at this
      omega
  have fmi : ∀ a b : Int, 1 ≤ a → a ≤ b → f a ≤ f b := fun a b h1 h2 => by
    have := fm (b - a).toNat a.toNat (by omega)
    rw [show ((a.toNat + (b - a).toNat : Nat) : Int) = b by omega, show ((a.toNat : Nat) : Int) = a by omega] at this
    exact this
  obtain ⟨l1, l2⟩ := tW_len (us := us)
  have gg : ¬ g * ((Nat.lcm (1 : Int).toNat p.toNat : Nat) / p) < 0 * ((Nat.lcm (1 : Int).toNat p.toNat : Nat) / (1 : Int)) := by
    rw [L, Int.zero_mul, show ((p.toNat : Nat) : Int) = p by omega, Int.ediv_self (by omega)]
    omega
  unfold amM
  rw [if_neg gg, Bool.eq_iff_iff, all_iff, all_iff]
  have nn : ((amN (tW us).length n2 1 p : Nat) : Int) = max (((tW us).length : Int) - 1) ((n2 : Int) - p) + p := by
    unfold amN
    rw [L]
    omega
  constructor
  · intro h t h1 h2
    rw [← tW_at _ (by omega)]
    by_cases c : t ≤ (amN (tW us).length n2 1 p : Nat)
    · exact h t h1 c
    · have R : Rep (cvAt (tW us) 1 0) (tW us).length 1 0 := Rep.cvAt (by decide) (by omega)
      have flat : ∀ d : Nat, cvAt (tW us) 1 0 (((tW us).length + d : Nat) : Int) = cvAt (tW us) 1 0 (tW us).length := fun d => by
        induction d with
        | zero => rfl
        | succ d ih =>
          rw [R _ (by omega), show (((tW us).length + (d + 1) : Nat) : Int) - 1 = (((tW us).length + d : Nat) : Int) by omega, ih]
          omega
      have e := flat (t - (tW us).length).toNat
      rw [show (((tW us).length + (t - (tW us).length).toNat : Nat) : Int) = t by omega] at e
      rw [e]
      exact Int.le_trans (h _ (by omega) (by omega)) (fmi _ _ (by omega) (by omega))
  · intro h t h1 h2
    rw [tW_at _ (by omega)]
    by_cases c : t ≤ us.length
    · exact h t h1 c
    · unfold tF
      rw [most_far (by omega)]
      by_cases z : us.length = 0
      · have : us = [] := List.length_eq_zero_iff.mp z
        subst this
        exact Int.le_trans h0 (fmi 1 t (by decide) h1)
      · have a := h us.length (by omega) (Int.le_refl _)
        rw [tF_nat, most_far (Nat.le_refl _)] at a
        exact Int.le_trans a (fmi _ _ (by omega) (by omega))
end VM

/-! Data in an f-string, repr by an own __repr__ that shows data, lcm. -/
namespace VQ
open PySem PySem.Spec PyProof.Rows L2
section
variable {X : Cx}
/-- {x}: data that repr may be asked of -/
def tFmtD (K : PySem.W.Frag) (te : TE) : TE := fun σ H Q => te σ H fun x H1 => ∃ (a : Addr) (d : PyData), x = .ref a ∧ Dp K H1 x d ∧ d.showable = true ∧ d.depth ≤ 60 ∧ d.shown.length ≤ sizeLine ∧ Q (.str d.shown) H1
theorem pe_fmtD {e : Expr} {te : TE} {pos : Pos} (hg : X.A.guards = some []) (hu : X.A.units + 64 < cLine) (he : PE X e te) : PE X (.FormattedValue e (-1) none pos) (tFmtD X.K te) := by
  refine ⟨fun pins s σ H Q I h => wpAny_FormattedValue_plain (thn (he.run pins s σ H _ I h) ?_)⟩
  rintro v s1 ⟨x, H1, I1, r1, a, d, rfl, dp, sh, de, sz, q⟩
  obtain rfl : v = Value.ref a := r1
  have nd := (VG.dp_noDict X.K H1).1 d _ dp
  obtain ⟨as, rd⟩ := Dp.reads I1 d _ _ dp rfl
  exact formatField_of_reads rd sh (fun z => by rw [nd] at z; cases z) hg (by omega) (fun _ _ z => z) (fun h' u tk k => ⟨.str _, H1, I1.kept (t' := tk) k, ⟨_, rfl⟩, q⟩) sz
variable {CX : CXT} {k : Nat} {f C : Addr} {fd : FuncData} {ps : List Str} {sp : Sp} {E : XK}
/-- repr of an instance whose own __repr__ asks for empty guards -/
theorem call_reprOwnG (F : VG.FnG X.prog X.w X.K X.mg X.base CX k f fd ps sp) (hA : X.A.guards = some []) (hr : Room (k + 1) X.A) (o : Meth X.K C "__repr__" f) (hb : Binds X.K fd ps []) (hx : Passes CX X E) :
    CallR X (.builtin "repr") (VN.rReprOwn C sp E) := by
  intro pins s σ H xs us Q I r h
  obtain ⟨a, dx, fs, rfl, ea, hsp⟩ := h
  obtain ⟨u, rfl, ru⟩ := vals1 r
  obtain rfl : u = Value.ref a := ru
  obtain ⟨mA, J, _⟩ := ins_get I.hok ea
  obtain ⟨od, J, _⟩ := J.look
  obtain ⟨m, hF⟩ := I.fr
  have len := F.arity _ _ _ _ hsp
  have bind := hb s [.ref a] I.kIn (by simpa using len)
  rw [List.append_nil] at bind
  refine PySem.W.repr_K hr.in1.units0 hF I.ok.mod.kin J o.at_ o.fn (wpAny_call (codeAny_mono (F.go X.A.in1 X.stack s H ⟨[.ref a], []⟩ [.ref a] [.ref a] _ E hA hr.in1 I.env0.in1 bind (.cons rfl .nil) hsp) ?_))
  intro res s' hq
  match res, hq with
  | .error e, hq => exact hx pins σ H s e s' I hq
  | .ok .next, hq => exact False.elim hq
  | .ok .brk, hq => exact False.elim hq
  | .ok .cont, hq => exact False.elim hq
  | .ok (.ret w), hq =>
    obtain ⟨z, H', J', rz, y, rfl, q⟩ := I.after hq
    obtain ⟨t, rfl⟩ := rz
    exact ⟨.str y, H', J', ⟨t, rfl⟩, q⟩
/-- lcm of small numbers -/
def rLcm : List V → Hp → VK → Prop := fun vs H Q => ∃ a b : Int, vs = [.int a, .int b] ∧ 0 < a ∧ a ≤ 1000 ∧ 0 < b ∧ b ≤ 1000 ∧ Q (.int ((Nat.lcm a.toNat b.toNat : Nat) : Int)) H
theorem cr_lcm : CallR X (.builtin "math.lcm") rLcm := by
  intro pins s σ H vs us Q I r h
  obtain ⟨a, b, rfl, a0, a1, b0, b1, q⟩ := h
  obtain ⟨t, u, rfl⟩ := Vals.int2 r
  have ea : a.natAbs = a.toNat := by omega
  have eb : b.natAbs = b.toNat := by omega
  have z : (Nat.lcm 1 a.natAbs).lcm b.natAbs = Nat.lcm a.toNat b.toNat := by rw [Nat.lcm_one_left, ea, eb]
  have big : Nat.lcm a.toNat b.toNat ≤ 1000000 := by
    have p : Nat.lcm a.toNat b.toNat ∣ a.toNat * b.toNat := Nat.lcm_dvd_mul _ _
    have m := Nat.le_of_dvd (Nat.mul_pos (by omega) (by omega)) p
    have y : a.toNat * b.toNat ≤ 1000 * 1000 := Nat.mul_le_mul (by omega) (by omega)
    omega
  have lg : (Nat.lcm a.toNat b.toNat).log2 < 64 := by
    by_cases n0 : Nat.lcm a.toNat b.toNat = 0
    · rw [n0]; decide
    · exact (Nat.log2_lt n0).mpr (Nat.lt_of_le_of_lt big (by decide))
  refine PySem.W.mg_lcm (by omega) (by omega) ?_ ⟨.int _, H, I.tok _, ⟨_, rfl⟩, ?_⟩
  · rw [z, Int.natAbs_natCast]
    exact Nat.lt_trans lg (by decide)
  · rw [z]; exact q
end
end VQ

/-! The sum of two objects of an own class, by its own __add__. -/
namespace VO
open PySem PySem.Spec PyProof.Rows L2
def rAddOwn (C : Addr) (sp : Sp) (E : XK) : R2 := fun x y H Q => ∃ a dx fs b dy gs, x = .ref a ∧ H a = some (.ins C dx fs) ∧ y = .ref b ∧ H b = some (.ins C dy gs) ∧ sp [x, y] H (fun v H' => ∃ c, v = .ref c ∧ Q (.ref c) H') E
section
variable {X : Cx} {CX : CXT} {k : Nat} {f C : Addr} {fd : FuncData} {ps : List Str} {sp : Sp} {E : XK}
theorem op_addOwn (F : FnOk X.prog X.w X.K X.mg X.base CX k f fd ps sp) (hr : Room k X.A) (o : Meth X.K C "__add__" f) (c : PySem.W.selfFirst X.K C = true) (hb : Binds X.K fd ps []) (hx : Passes CX X E) : OpR X (binaryOp .Add) (rAddOwn C sp E) := by
  intro pins s σ H x y v u Q I rx ry h
  obtain ⟨a, dx, fs, b, dy, gs, rfl, ea, rfl, eb, hsp⟩ := h
  obtain rfl : v = Value.ref a := rx
  obtain rfl : u = Value.ref b := ry
  obtain ⟨mA, J, _⟩ := ins_get I.hok ea
  obtain ⟨od, J, _⟩ := J.look
  obtain ⟨mB, J2, _⟩ := ins_get I.hok eb
  obtain ⟨od2, J2, _⟩ := J2.look
  obtain ⟨m, hF⟩ := I.fr
  show wpAny (model X.prog X.w) X.A (binaryOp .Add (.ref a) (.ref b)) (EP X pins σ Q) X.xe s
  refine PySem.W.binop_K (op := .Add) hF I.ok.mod.kin J J2.type c o.at_ o.fn ?_
  have hl := F.len _ _ _ _ hsp
  have r2 : Vals [V.ref a, V.ref b] [Value.ref a, Value.ref b] := .cons rfl (.cons rfl .nil)
  refine wpAny_call (codeAny_mono (F.run X.A X.stack s H ⟨[.ref a, .ref b], []⟩ [.ref a, .ref b] [.ref a, .ref b] _ E hr I.env0 (by
    have := hb s [.ref a, .ref b] I.kIn (by simpa using hl)
    simpa using this) r2 hsp) fun r s' hq => ?_)
  cases r with
  | error e => exact hx pins σ H s e s' I hq
  | ok fl =>
    cases fl with
    | ret w =>
      obtain ⟨z, H', I', rz, b, ez, q⟩ := I.after hq
      subst ez
      cases rz
      exact ⟨.ref b, H', I', rfl, q⟩
    | next => exact False.elim hq
    | brk => exact False.elim hq
    | cont => exact False.elim hq
end
end VO

/-! The first break of a curve; a curve later; the sum of two. -/
namespace VM
theorem least_nat {P : Nat → Prop} (h : ∃ n, P n) : ∃ n, P n ∧ ∀ m, m < n → ¬ P m := by
  obtain ⟨n, hn⟩ := h
  induction n using Nat.strongRecOn with
  | ind n ih =>
    by_cases z : ∃ m, m < n ∧ P m
    · obtain ⟨m, hm, pm⟩ := z
      exact ih m hm pm
    · exact ⟨n, hn, fun m hm pm => z ⟨m, hm, pm⟩⟩
/-- the first break among all pairs, or that there is none -/
def First (f : Int → Int) : Option (Int × Int) → Prop
  | none => ∀ a b : Int, 1 ≤ a → a ≤ b → f (a + b) ≤ f a + f b
  | some (a, b) => 1 ≤ a ∧ a ≤ b ∧ f a + f b < f (a + b) ∧ ∀ x y : Int, 1 ≤ x → x ≤ y → (x + y < a + b ∨ (x + y = a + b ∧ x < a)) → f (x + y) ≤ f x + f y
theorem first_ex (f : Int → Int) : ∃ o, First f o := by
  by_cases h : ∃ s : Nat, ∃ a : Nat, 1 ≤ a ∧ 2 * a ≤ s ∧ f a + f (s - a) < f s
  · obtain ⟨s, ⟨a0, ha0⟩, hs⟩ := least_nat h
    obtain ⟨a, ⟨a1, a2, a3⟩, ha⟩ := least_nat (P := fun a : Nat => 1 ≤ a ∧ 2 * a ≤ s ∧ f a + f (s - a) < f s) ⟨a0, ha0⟩
    refine ⟨some ((a : Int), (s : Int) - a), by omega, by omega, ?_, fun x y hx hxy lt => ?_⟩
    · rw [show (a : Int) + (s - a) = s by omega]; exact a3
    · by_cases c : f (x + y) ≤ f x + f y
      · exact c
      · exfalso
        have e1 : ((x.toNat : Nat) : Int) = x := by omega
        have e2 : (((x + y).toNat : Nat) : Int) = x + y := by omega
        have key : 1 ≤ x.toNat ∧ 2 * x.toNat ≤ (x + y).toNat ∧ f (x.toNat : Nat) + f (((x + y).toNat : Nat) - (x.toNat : Nat) : Int) < f ((x + y).toNat : Nat) := by
          refine ⟨by omega, by omega, ?_⟩
          rw [e1, e2, show x + y - x = y by omega]
          omega
        rcases lt with lt | ⟨lt, lt2⟩
        · exact hs (x + y).toNat (by omega) ⟨x.toNat, key⟩
        · refine ha x.toNat (by omega) ?_
          have e3 : (x + y).toNat = s := by omega
          rw [e3] at key
          exact key
  · refine ⟨none, fun a b ha hab => ?_⟩
    by_cases c : f (a + b) ≤ f a + f b
    · exact c
    · exfalso
      apply h
      refine ⟨(a + b).toNat, a.toNat, by omega, by omega, ?_⟩
      rw [show ((a.toNat : Nat) : Int) = a by omega, show (((a + b).toNat : Nat) : Int) = a + b by omega, show a + b - a = b by omega]
      omega
theorem First.congr {f h : Int → Int} {o : Option (Int × Int)} (e : ∀ t : Int, 0 ≤ t → f t = h t) (F : First f o) : First h o := by
  cases o with
  | none => exact fun a b h1 h2 => by rw [← e (a + b) (by omega), ← e a (by omega), ← e b (by omega)]; exact F a b h1 h2
  | some ab =>
    obtain ⟨a, b⟩ := ab
    obtain ⟨a1, a2, a3, a4⟩ := F
    refine ⟨a1, a2, ?_, fun x y h1 h2 lt => ?_⟩
    · rw [← e (a + b) (by omega), ← e a (by omega), ← e b (by omega)]; exact a3
    · rw [← e (x + y) (by omega), ← e x (by omega), ← e y (by omega)]; exact a4 x y h1 h2 lt
/-- neither length of the first break is greater than the number of values -/
theorem first_le {f : Int → Int} {n p g a b : Int} (R : Rep f n p g) (hp : 0 < p) (hpn : p ≤ n) (F : First f (some (a, b))) : b ≤ n := by
  obtain ⟨a1, a2, a3, a4⟩ := F
  by_cases c : b ≤ n
  · exact c
  exfalso
  have r1 := R b (by omega)
  have r2 := R (a + b) (by omega)
  by_cases z : a ≤ b - p
  · have := a4 a (b - p) a1 z (.inl (by omega))
    rw [show a + (b - p) = a + b - p by omega] at this
    omega
  · have := a4 (b - p) a (by omega) (by omega) (.inl (by omega))
    rw [show b - p + a = a + b - p by omega] at this
    omega
/-- a function later by n -/
def laterF (f : Int → Int) (n : Int) (t : Int) : Int := if t ≤ n then 0 else f (t - n)
theorem later_vals {f : Int → Int} {n m : Nat} : List.replicate n (0 : Int) ++ vals f m = vals (laterF f n) (n + m) := by
  refine List.ext_getElem? fun i => ?_
  by_cases h : i < n
  · rw [List.getElem?_append_left (by rw [List.length_replicate]; exact h), List.getElem?_replicate, if_pos h]
    unfold vals
    rw [List.getElem?_map, List.getElem?_range (by omega)]
    show some (0 : Int) = some (laterF f n ((i : Int) + 1))
    unfold laterF
    rw [if_pos (by omega)]
  · rw [List.getElem?_append_right (by rw [List.length_replicate]; omega), List.length_replicate]
    unfold vals
    by_cases c : i < n + m
    · rw [List.getElem?_map, List.getElem?_map, List.getElem?_range (by omega), List.getElem?_range (by omega)]
      show some (f (((i - n : Nat) : Int) + 1)) = some (laterF f n ((i : Int) + 1))
      unfold laterF
      rw [if_neg (by omega), show ((i - n : Nat) : Int) + 1 = (i : Int) + 1 - n by omega]
    · rw [List.getElem?_eq_none (by simp; omega), List.getElem?_eq_none (by simp; omega)]
theorem later_rep {f : Int → Int} {n m p g : Int} (R : Rep f m p g) (hp : 0 < p) (hpm : p ≤ m) (hn : 0 ≤ n) (h0 : f 0 = 0) : Rep (laterF f n) (n + m) p g := by
  intro t ht
  unfold laterF
  by_cases c : t - p ≤ n
  · rw [if_neg (by omega), if_pos c]
    have := R (t - n) (by omega)
    rw [show t - n - p = 0 by omega, h0] at this
    exact this
  · rw [if_neg (by omega), if_neg c, R (t - n) (by omega), show t - n - p = t - p - n by omega]
theorem later_zero {f : Int → Int} {n : Int} (hn : 0 ≤ n) : laterF f n 0 = 0 := by unfold laterF; rw [if_pos hn]
theorem vals_self {cs : List Int} {p g : Int} : vals (cvAt cs p g) cs.length = cs := by
  refine List.ext_getElem? fun i => ?_
  unfold vals
  by_cases h : i < cs.length
  · rw [List.getElem?_map, List.getElem?_range h, List.getElem?_eq_getElem h]
    show some (cvAt cs p g ((i : Int) + 1)) = _
    rw [cvAt_in (by omega) (by omega), show ((i : Int) + 1 - 1).toNat = i by omega, List.getD_eq_getElem?_getD, List.getElem?_eq_getElem h]
    rfl
  · rw [List.getElem?_eq_none (by simp; omega), List.getElem?_eq_none (by omega)]
/-- zeros in front: the curve later -/
theorem cvAt_later {cs : List Int} {p g : Int} {n : Nat} (hp : 0 < p) (hpn : p ≤ cs.length) {t : Int} (ht : 0 ≤ t) :
    cvAt (List.replicate n 0 ++ cs) p g t = laterF (cvAt cs p g) n t := by
  have e : List.replicate n (0 : Int) ++ cs = vals (laterF (cvAt cs p g) n) (n + cs.length) := by
    rw [← later_vals, vals_self]
  rw [e]
  refine cvAt_vals hp (by omega) (later_zero (by omega)) ?_ t ht
  have := later_rep (n := (n : Int)) (Rep.cvAt (g := g) hp hpn) hp hpn (by omega) cvAt_zero
  rw [show (((n + cs.length : Nat)) : Int) = (n : Int) + cs.length by omega]
  exact this
theorem Rep.times {f : Int → Int} {n p g : Int} (R : Rep f n p g) (hp : 0 < p) (k : Nat) : ∀ t, n + (k : Int) * p < t + p → f t = f (t - k * p) + k * g := by
  induction k with
  | zero => intro t ht; simp
  | succ k ih =>
    intro t ht
    have e1 : ((k + 1 : Nat) : Int) * p = k * p + p := by rw [show ((k + 1 : Nat) : Int) = (k : Int) + 1 by omega, Int.add_mul, Int.one_mul]
    have e2 : ((k + 1 : Nat) : Int) * g = k * g + g := by rw [show ((k + 1 : Nat) : Int) = (k : Int) + 1 by omega, Int.add_mul, Int.one_mul]
    rw [e1] at ht ⊢
    rw [e2, ih t (by omega), R (t - k * p) (by omega), show t - k * p - p = t - (k * p + p) by omega]
    omega
/-- with a multiple of the period -/
theorem Rep.mul {f : Int → Int} {n p g N P : Int} (R : Rep f n p g) (hp : 0 < p) (hd : p ∣ P) (hP : 0 < P) (hN : n - p + P ≤ N) : Rep f N P (g * (P / p)) := by
  intro t ht
  obtain ⟨k, rfl⟩ := hd
  have k0 : 0 < k := by
    by_cases z : 0 < k
    · exact z
    · exfalso
      have := Int.mul_nonpos_of_nonneg_of_nonpos (show 0 ≤ p by omega) (show k ≤ 0 by omega)
      omega
  obtain ⟨m, rfl⟩ : ∃ m : Nat, k = (m : Int) := ⟨k.toNat, by omega⟩
  have := R.times hp m t (by rw [Int.mul_comm p] at hN; omega)
  rw [Int.mul_ediv_cancel_left _ (by omega : p ≠ 0), Int.mul_comm p, this, Int.mul_comm g]
theorem Rep.add {f h : Int → Int} {N P g1 g2 : Int} (R : Rep f N P g1) (S : Rep h N P g2) : Rep (fun t => f t + h t) N P (g1 + g2) := by
  intro t ht
  show f t + h t = f (t - P) + h (t - P) + (g1 + g2)
  rw [R t ht, S t ht]
  omega
end VM

/-! repr of data, or of an empty dict. -/
namespace VZ
open PySem PySem.Spec PyProof.Rows L2
def Dz (K : PySem.W.Frag) (H : Hp) (v : V) (d : PyData) : Prop := Dp K H v d ∨ ∃ a, v = .ref a ∧ H a = some (.dK []) ∧ d = .dict []
def rReprZ (K : PySem.W.Frag) : List V → Hp → VK → Prop := fun xs H Q =>
  ∃ v d, xs = [v] ∧ Dz K H v d ∧ d.showable = true ∧ d.depth ≤ 60 ∧ d.shown.length ≤ sizeLine ∧ Q (.str d.shown) H
theorem empty_show : (PyData.dict []).showable = true ∧ (PyData.dict []).depth ≤ 60 ∧ (PyData.dict []).shown.length ≤ sizeLine := ⟨rfl, by decide, by decide⟩
theorem call_reprZ {X : Cx} (hg : X.A.guards = some []) (hu : X.A.units + 64 < cLine) : CallR X (.builtin "repr") (rReprZ X.K) := by
  intro pins s σ H xs us Q I r h
  obtain ⟨v, d, rfl, hd, hs, hdep, hz, q⟩ := h
  rcases hd with hd | ⟨a, rfl, ha, rfl⟩
  · exact VG.call_repr hg hu pins s σ H _ us Q I r ⟨v, d, rfl, hd, hs, hdep, hz, q⟩
  · obtain ⟨u, rfl, rv⟩ := vals1 r
    cases rv
    obtain ⟨_, ns, vs, kv, o, es, ep, e1, e2, e3, e4, e5, e6⟩ := (show ObjOk X.prog X.w H s.heap a (.dK []) from I.hok a _ ha)
    cases kv
    have e0 : es.toList = [] := by
      cases h : es.toList with
      | nil => rfl
      | cons z zs => rw [h] at e5; cases e5
    have rd : Reads s.heap (.ref a) (.dict []) (a :: [] ++ []) := Reads.dict (es := es) e1 e2.1 e3 (by rw [e0]; exact .nil) (by rw [e0]; exact .nil)
    have keep : ∀ (h' : Heap) (t' : Nat), (∀ b o, s.heap.get? b = some o → h'.get? b = some o) → Inv X pins σ H { s with heap := h', toks := t' } :=
      fun h' t' k => I.kept (t' := t') k
    exact repr_of_reads' rd hs (fun _ m => by simp at m; subst m; simp at ns) hg (by omega) (fun _ _ e => e) (fun h' w tk k => ⟨.str _, H, keep h' tk k, ⟨_, rfl⟩, q⟩) hz
end VZ

/-! A method of an own class that may raise, called where errors are caught. -/
namespace VX
open PySem PySem.Spec PyProof.Rows L2
/-- a statement behind which nothing comes -/
def tStop (t : TS) : TS := fun D σ H => t { D with nx := fun _ _ => False } σ H
theorem pss_stop {X : Cx} {st : Stmt} {more : List Stmt} {t : TS} (h1 : PS X st t) : PSs X (st :: more) (tStop t) := by
  constructor
  intro pins s σ H D I hm
  refine wpAny_execs_cons (thn (h1.run pins s σ H _ I hm) ?_)
  intro fl s1 q
  match fl, q with
  | .next, ⟨σ', H', I', q⟩ => exact q.elim
  | .ret v, q => exact q
  | .brk, q => exact q
  | .cont, q => exact q
def tMethS (C : Addr) (m : Str) (sp : Sp) (E : L2.St → XK) (ta : TE) (t : TA) : TE := fun σ H Q => ta σ H fun x H1 => ∃ a dx fs, x = .ref a ∧ H1 a = some (.ins C dx fs) ∧ fs.lookup m = none ∧ t σ H1 fun vs H2 => sp (x :: vs) H2 Q (E σ)
theorem pe_fldK {X : Cx} {K' : PySem.W.Frag} {e : Expr} {ta : TE} {f : Str} {pos : Pos} (he : PE X e ta) (hb : attributeBase e f X.env (eval e X.env) = eval e X.env) (hK : X.K = K') : PE X (.Attribute e f pos) (tFld K' ta f) := by
  subst hK
  exact pe_fld he hb
section
variable {X : Cx} {CX : CXT} {k : Nat} {f C : Addr} {fd : FuncData} {ps : List Str} {sp : Sp} {E : L2.St → XK} {x m : Str} {p pos apos : Pos} {e o : Expr} {es : List Expr} {ta : TE} {t : TA}
theorem pe_methS {pl : Sem Bool} (he : PE X o ta) (c : Cls X.K C) (hm : Meth X.K C m f) (F : FnOk X.prog X.w X.K X.mg X.base CX k f fd ps sp) (hr : Room k X.A) (hb : Binds X.K fd ps []) (hx : ∀ σ, PassesAt CX X σ (E σ)) (ha : PA X (e :: es) t)
    (hst : starEach (e :: es) X.env = (false, eval e X.env) :: starEach es X.env := by rfl) (hpl : (backTo pos (starEach es X.env)).any (·.1) = false := by rfl)
    (ht : eval (.Call (.Attribute o m apos) (e :: es) [] pos) X.env = (do
      let ov ← eval o X.env
      standAt apos.atName
      let (f, first) ← holding [ov] (getMethod ov m pl)
      callWith pos f first (backTo pos (starEach (e :: es) X.env)) (backToKw pos (keywordEach [] X.env))) := by rfl) :
    PE X (.Call (.Attribute o m apos) (e :: es) [] pos) (tMethS C m sp E ta t) := by
  refine ⟨fun pins s σ H Q I h => ?_⟩
  refine PySem.W.methodCall_KW (pl := pl) (thn (he.run pins s σ H _ I h) fun u s1 ⟨x, H1, I1, rx, a, dx, fs, ex, ea, l, q⟩ => ?_) ht
  subst ex
  obtain rfl : u = Value.ref a := rx
  refine getmeth_ok I1 ea c hm l ?_
  refine PySem.W.callWith_K (first := [.ref a]) (h₀ := X.base) I.ok.mod.kin hm.kp (thn (ha.run pos pins s1 σ H1 _ I1 q) fun us s2 ⟨vs, H2, I2, r, q2⟩ => ⟨I2.kIn, ?_⟩) hst hpl
  exact run_fnS (us := .ref a :: us) (vs := .ref a :: vs) F hr hb (hx σ) I2 (.cons rfl r) q2
end
end VX

/-! The least length with something, of a function that repeats. -/
namespace VM
/-- the least length from lo on where h is positive, or that there is none -/
def LeastR (h : Int → Int) (lo : Int) : Option Int → Prop
  | none => ∀ t : Int, lo ≤ t → h t ≤ 0
  | some t => lo ≤ t ∧ 0 < h t ∧ ∀ s : Int, lo ≤ s → s < t → h s ≤ 0
theorem LeastR.uniq {h : Int → Int} {lo : Int} {o o' : Option Int} (a : LeastR h lo o) (b : LeastR h lo o') : o = o' := by
  cases o with
  | none =>
    cases o' with
    | none => rfl
    | some t => have := a t b.1; have := b.2.1; omega
  | some s =>
    cases o' with
    | none => have := b s a.1; have := a.2.1; omega
    | some t =>
      by_cases c : s < t
      · have := b.2.2 s a.1 c; have := a.2.1; omega
      · by_cases c2 : t < s
        · have := a.2.2 t b.1 c2; have := b.2.1; omega
        · rw [show s = t by omega]
theorem least_ex (h : Int → Int) (lo : Int) : ∃ o, LeastR h lo o := by
  by_cases c : ∃ n : Nat, 0 < h (lo + n)
  · obtain ⟨n, hn, no⟩ := least_nat c
    refine ⟨some (lo + n), by omega, hn, fun s h1 h2 => ?_⟩
    have := no (s - lo).toNat (by omega)
    rw [show lo + ((s - lo).toNat : Int) = s by omega] at this
    omega
  · refine ⟨none, fun t ht => ?_⟩
    by_cases z : 0 < h t
    · exact absurd ⟨(t - lo).toNat, by rw [show lo + ((t - lo).toNat : Int) = t by omega]; exact z⟩ c
    · omega
theorem filt_none {P : Nat → Bool} : ∀ {n : Nat}, (∀ i, i < n → P i = false) → (List.range n).filter P = []
  | n, h => by
    rw [List.filter_eq_nil_iff]
    intro i hi
    rw [h i (List.mem_range.mp hi)]
    decide
theorem filt_some {P : Nat → Bool} {t : Nat} (ht : P t = true) (no : ∀ i, i < t → P i = false) : ∀ {n : Nat}, t < n → ∃ ys, (List.range n).filter P = t :: ys := by
  intro n
  induction n with
  | zero => intro h; omega
  | succ n ih =>
    intro h
    rw [List.range_succ, List.filter_append]
    by_cases c : t < n
    · obtain ⟨ys, e⟩ := ih c
      rw [e]
      exact ⟨_, rfl⟩
    · have e : t = n := by omega
      subst e
      rw [filt_none no]
      refine ⟨[], ?_⟩
      simp [List.filter, ht]
theorem LeastR.congr {h k : Int → Int} {lo : Int} {o : Option Int} (e : ∀ t : Int, lo ≤ t → h t = k t) (a : LeastR h lo o) : LeastR k lo o := by
  cases o with
  | none => exact fun t ht => by rw [← e t ht]; exact a t ht
  | some t => exact ⟨a.1, by rw [← e t a.1]; exact a.2.1, fun s hs hst => by rw [← e s hs]; exact a.2.2 s hs hst⟩
/-- each length behind n is one of the last period and some periods more -/
theorem last_of {n p t : Int} (hp : 0 < p) (ht : n < t) : ∃ (l : Int) (k : Nat), 1 ≤ k ∧ n - p < l ∧ l ≤ n ∧ t = l + k * p := by
  obtain ⟨r1, r2, r3⟩ := rounds_spec hp ht
  refine ⟨t - (t - n + p - 1) / p * p, ((t - n + p - 1) / p).toNat, by omega, by omega, by omega, ?_⟩
  rw [Int.toNat_of_nonneg (by omega)]
  omega
theorem Rep.at_ {h : Int → Int} {n p G l : Int} (R : Rep h n p G) (hp : 0 < p) (h1 : n - p < l) (k : Nat) : h (l + k * p) = h l + k * G := by
  have := R.times hp k (l + k * p) (by omega)
  rw [show l + (k : Int) * p - k * p = l by omega] at this
  exact this
theorem least_none {h : Int → Int} {n p G lo : Int} (R : Rep h n p G) (hp : 0 < p) (hlo : lo ≤ n - p + 1) (hG : G ≤ 0) (no : ∀ t : Int, lo ≤ t → t ≤ n → h t ≤ 0) : LeastR h lo none := by
  intro t ht
  by_cases c : t ≤ n
  · exact no t ht c
  · obtain ⟨l, k, k1, l1, l2, rfl⟩ := last_of (n := n) hp (show n < t by omega)
    rw [R.at_ hp l1 k]
    have := no l (by omega) l2
    have := Int.mul_nonpos_of_nonneg_of_nonpos (show (0 : Int) ≤ k by omega) hG
    omega
/-- when a length of the last period comes up -/
def candM (h : Int → Int) (p G l : Int) : Int := l + p * (-(h l) / G + 1)
theorem least_min {h : Int → Int} {n p G lo m : Int} (R : Rep h n p G) (hp : 0 < p) (hlo : lo ≤ n - p + 1) (hG : 0 < G) (no : ∀ t : Int, lo ≤ t → t ≤ n → h t ≤ 0)
    (hm : ∃ l : Int, n - p < l ∧ l ≤ n ∧ m = candM h p G l) (hx : ∀ l : Int, n - p < l → l ≤ n → m ≤ candM h p G l) : LeastR h lo (some m) := by
  obtain ⟨l, l1, l2, rfl⟩ := hm
  have hl := no l (by omega) l2
  have q0 : 0 ≤ -(h l) / G := Int.ediv_nonneg (by omega) (by omega)
  have e : candM h p G l = l + ((-(h l) / G + 1).toNat : Nat) * p := by
    unfold candM
    rw [Int.toNat_of_nonneg (by omega), Int.mul_comm]
  have pos : 0 < p * (-(h l) / G + 1) := Int.mul_pos hp (by omega)
  refine ⟨by unfold candM; omega, ?_, fun s hs hst => ?_⟩
  · rw [e, R.at_ hp l1, Int.toNat_of_nonneg (by omega)]
    have := Int.lt_ediv_add_one_mul_self (-(h l)) hG
    omega
  · by_cases c : s ≤ n
    · exact no s hs c
    · obtain ⟨l', k, k1, l1', l2', rfl⟩ := last_of (n := n) hp (show n < s by omega)
      rw [R.at_ hp l1' k]
      by_cases z : h l' + k * G ≤ 0
      · exact z
      · exfalso
        have hl' := no l' (by omega) l2'
        have x := hx l' l1' l2'
        have ge : -(h l') / G + 1 ≤ k := by
          have : -(h l') / G < k := Int.ediv_lt_of_lt_mul hG (by omega)
          omega
        have m1 := Int.mul_le_mul_of_nonneg_left ge (show 0 ≤ p by omega)
        unfold candM at x hst
        rw [Int.mul_comm (k : Int) p] at hst
        omega
/-- it comes within the first lengths, where each dozen more adds nothing -/
theorem least_low {h : Int → Int} {N P D lo t : Int} (R : Rep h N P D) (hP : 0 < P) (hlo : lo ≤ N + 1 - P) (hD : D ≤ 0) (F : LeastR h lo (some t)) : t ≤ N := by
  by_cases c : t ≤ N
  · exact c
  · exfalso
    have r := R t (by omega)
    have := F.2.2 (t - P) (by omega) (by omega)
    have := F.2.1
    omega
theorem least_high {h : Int → Int} {N P D lo t : Int} (R : Rep h N P D) (hP : 0 < P) (hlo : lo ≤ N) (hD : 1 ≤ D) (k : Nat) (hk : 1 ≤ h N + k) (F : LeastR h lo (some t)) : t ≤ N + k * P := by
  by_cases c : t ≤ N + k * P
  · exact c
  · exfalso
    have r := R.at_ hP (show N - P < N by omega) k
    have k2 := Int.mul_le_mul_of_nonneg_left hD (show (0 : Int) ≤ k by omega)
    have k3 := Int.mul_nonneg (show (0 : Int) ≤ k by omega) (show (0 : Int) ≤ P by omega)
    have := F.2.2 (N + k * P) (by omega) (by omega)
    omega
/-- the sum of some curves that are later -/
structure RowD where
  xs : List Int
  p : Int
  g : Int
  k : Nat
def rowF (r : RowD) (t : Int) : Int := laterF (cvAt r.xs r.p r.g) r.k t
def sumF : List RowD → Int → Int
  | [], _ => 0
  | r :: rs, t => rowF r t + sumF rs t
def dozM : List RowD → Int
  | [] => 0
  | r :: rs => r.g * (12 / r.p) + dozM rs
structure RowD.Ok (r : RowD) : Prop where
  p0 : 0 < r.p
  pn : r.p ≤ r.xs.length
  dv : r.p ∣ 12
theorem sum_rep : ∀ {rs : List RowD} {N : Int}, (∀ r ∈ rs, r.Ok) → (∀ r ∈ rs, (r.xs.length : Int) + r.k + 12 ≤ N) → Rep (sumF rs) N 12 (dozM rs)
  | [], N, _, _ => fun t _ => by simp [sumF, dozM]
  | r :: rs, N, h, hN => by
    have o := h r (List.mem_cons_self ..)
    have b := hN r (List.mem_cons_self ..)
    have R1 := (later_rep (n := (r.k : Int)) (Rep.cvAt (g := r.g) o.p0 o.pn) o.p0 o.pn (by omega) cvAt_zero).mul (N := N) o.p0 o.dv (by decide) (by have := o.p0; omega)
    exact R1.add (sum_rep (fun x hx => h x (List.mem_cons_of_mem _ hx)) (fun x hx => hN x (List.mem_cons_of_mem _ hx)))
end VM

/-! for i, x in enumerate(xs, start=k) -/
namespace VE
open PySem PySem.Spec PyProof.Rows L2
/-- k, k + 1, .. with the list at a (n items, which the loop leaves there), in new pairs -/
def Itk (K : PySem.W.Frag) (a : Addr) (n : Nat) (k : Int) : It :=
  ⟨fun i H => i < n ∧ ∃ xs : List V, SqL K H a xs ∧ xs.length = n, fun i H v H' => ∃ T x, v = .ref T ∧ H T = none ∧ H' = upd H T (.tup [.int (k + (i : Nat)), x]) ∧ ∀ xs, SqL K H a xs → xs[i]? = some x,
    fun i H => n ≤ i ∧ ∃ xs : List V, SqL K H a xs ∧ xs.length = n⟩
theorem turn_enumK {P : Program} {w : World} {K : PySem.W.Frag} {elts : List Expr} {kk : Nat} {tpos : Pos} (a e it : Addr) (n : Nat) (k : Int) (hai : a ≠ it) (hei : e ≠ it) (hea : e ≠ a) :
    Turn P w K (.Tuple elts kk tpos) (Itk K a n k) [e, it] e (fun i h => (∃ old, IsEnum h e it (k + (i : Nat)) old) ∧ i ≤ n ∧ h.IsListIter it a i) where
  mem := by simp
  obj := fun i h st b hb => by
    obtain ⟨⟨old, he⟩, _, o, ho, hc, hd⟩ := st
    have e' : b = e ∨ b = it := by simpa using hb
    rcases e' with z | z
    · rw [z]; exact ⟨_, he, fun v q => nomatch q⟩
    · rw [z]; exact ⟨o, ho, fun v q => by rw [hd] at q; cases q⟩
  keep := fun i h h' st kp => let ⟨⟨old, he⟩, hn, hi⟩ := st; ⟨⟨old, kp e (by simp) _ he⟩, hn, hi.at fun o q => kp it (by simp) o q⟩
  item := by
    intro X hP hw hK hc i pins s σ H E I hf st hg
    subst hP hw hK
    obtain ⟨⟨old, he⟩, hin, hit⟩ := st
    obtain ⟨hlt, xs, hq, hl⟩ := hg
    have hx : xs[i]? = some (xs[i]'(by omega)) := List.getElem?_eq_getElem (by omega)
    obtain ⟨its, rv, p, hz⟩ := I.list hq
    have hh : X.A.in1.handled = none := I.ok.hd hc
    have hel : e < s.heap.objs.size := Heap.lt_size he
    have hil : it < s.heap.objs.size := by obtain ⟨_, q, _⟩ := hit; exact Heap.lt_size q
    obtain ⟨u', hu', ru⟩ := rv.get hx
    have hn : its.toArray.size = n := by rw [List.size_toArray, ← rv.length]; exact hl
    have D := Draws.list (prog := X.prog) (w := X.w) (A := X.A.in1) hh it a hai its.toArray
    rw [hn] at D
    refine wpAny_pyNext_enum_itemC D he ⟨hit, p.isList⟩ hlt hei (by simp [hei, hea]) fun u h' tk hP ho hs' hT hsz hkp => ?_
    obtain ⟨hit', _⟩ := hs'
    have hP' : its[i]? = some u := by simpa using hP
    have euu : u' = u := by rw [hP'] at hu'; exact (Option.some.inj hu').symm
    subst euu
    refine ⟨_, rfl, wpAny_letOwnedTupleGo_enum (s := { s with heap := h', toks := tk + 1 }) ho fun h'' he' sb => ?_⟩
    have hT2 : h''.get? s.heap.objs.size = some { cls := .type "tuple", data := .seq #[.int (k + (i : Nat)) tk, u'] } := (sb.2 _ (Nat.ne_of_gt hel)).trans hT
    have new : ObjOk X.prog X.w (upd H s.heap.objs.size (.tup [.int (k + (i : Nat)), xs[i]'(by omega)])) h'' s.heap.objs.size (.tup [.int (k + (i : Nat)), xs[i]'(by omega)]) :=
      ⟨by show 2 ≤ sizeLine; decide, [.int (k + (i : Nat)) tk, u'], .cons ⟨_, rfl⟩ (.cons ru .nil), ⟨_, hT2, rfl, _, rfl⟩⟩
    have I1 : Inv X pins σ (upd H s.heap.objs.size (.tup [.int (k + (i : Nat)), xs[i]'(by omega)])) { s with heap := h'', toks := tk + 1 } :=
      I.turnedNew (ch := [e, it]) (fun b ob hb q => (sb.2 b (fun z => hb (by simp [z]))).trans (hkp b ob (fun z => hb (by simp [z])) (fun z => hb (by simp [z])) q)) hf (Nat.le_refl _) new
    refine ⟨.ref s.heap.objs.size, _, I1, rfl, ⟨_, _, rfl, I.hok.fresh (Nat.le_refl _), rfl, fun ys hy => by rw [I.list_inj hy hq]; exact hx⟩, ⟨⟨u', ?_⟩, hlt, hit'.at fun o q => (sb.2 it (Ne.symm hei)).trans q⟩, fun b hb => ?_⟩
    · have e1 : k + ((i + 1 : Nat) : Int) = k + (i : Int) + 1 := by omega
      rw [e1]; exact he'
    · have hb' : b < s.heap.objs.size := by
        have e' : b = e ∨ b = it := by simpa using hb
        rcases e' with z | z
        · rw [z]; exact hel
        · rw [z]; exact hil
      rw [upd_ne (Nat.ne_of_lt hb')]
      exact (hf b hb).1
  done := by
    intro X hP hw hK hc i pins s σ H E I hf st hg
    subst hP hw hK
    obtain ⟨⟨old, he⟩, hin, hit⟩ := st
    obtain ⟨hge, xs, hq, hl⟩ := hg
    obtain ⟨its, rv, p, hz⟩ := I.list hq
    have hn : its.toArray.size = n := by rw [List.size_toArray, ← rv.length]; exact hl
    have hh : X.A.in1.handled = none := I.ok.hd hc
    obtain ⟨f0, f1, f2, f3, f4, f5⟩ := hf it (by simp)
    have D := Draws.list (prog := X.prog) (w := X.w) (A := X.A.in1) hh it a hai its.toArray
    rw [hn] at D
    have ei : i = n := by omega
    subst ei
    exact wpAny_pyNext_enum_endD D he ⟨hit, p.isList⟩ fun h' eb => ⟨rfl, I.turned (t' := s.toks) (fun b o hb q => eb b o hb q) f0 f1 f3 f4 f5⟩
  self := fun A i s Q E st h => let ⟨⟨_, he⟩, _⟩ := st; wpAny_pyIter_enum he h
theorem walk_enumK {K : PySem.W.Frag} {a : Addr} {xs : List V} {k : Int} : Walk (Itk K a xs.length k) xs.length (fun H => SqL K H a xs) (YPair (fun i => some (.int (k + (i : Nat)))) (fun i => xs[i]?)) := by
  refine ⟨fun i _ hi q => ⟨hi, xs, q, rfl⟩, fun _ q => ⟨Nat.le_refl _, xs, q, rfl⟩, fun i H v H' _ q y => ?_⟩
  obtain ⟨T, x, h1, h2, h3, h4⟩ := y
  exact ⟨T, .int (k + (i : Nat)), x, h1, h2, h3, rfl, h4 xs q⟩
def iEnumK (K : PySem.W.Frag) (ta : TA) (k : Int) : TI := fun σ H R => ta σ H fun vs H1 => ∃ (a : Addr) (xs : List V), vs = [.ref a] ∧ SqL K H1 a xs ∧ R (Itk K a xs.length k) H1
theorem pi_enumK {X : Cx} {e : Expr} {ta : TA} {p pos kp jp tpos : Pos} {j : Nat} {k : Int} {elts : List Expr} {kk : Nat} (hk0 : -(2 ^ 63) ≤ k) (hk1 : k < 2 ^ 63) (hg : Gl X "enumerate") (hm : X.mg "enumerate" = none) (ha : PA X [e] ta)
    (hs : starEach [e] X.env = (false, eval e X.env) :: starEach [] X.env := by rfl)
    (hst : ∀ q, (backTo q (starEach [e] X.env)).any (·.1) = false := by exact fun _ => rfl) :
    PI X (.Tuple elts kk tpos) (.Call (.Name "enumerate" p) [e] [⟨some "start", .Constant (.int k) j jp, kp⟩] pos) (iEnumK X.K ta k) := by
  refine ⟨fun pins s σ H R I h => ?_⟩
  refine Call_kws (ld_blt I hg hm boot_enumerate (callWith_typeKw rfl ?_ (by rw [hst]; rfl) hs))
  refine thn (ha.run pos pins s σ H _ I h) fun us s1 ⟨vs, H1, I1, r1, q1⟩ => ?_
  obtain ⟨a, xs, ex, hq, q⟩ := q1
  subst ex
  cases r1 with
  | cons r rr =>
    cases rr
    cases r
    obtain ⟨its, rv, p', hz⟩ := I1.list hq
    have hal : a < s1.heap.objs.size := by obtain ⟨_, _, z, _⟩ := p'; exact Heap.lt_size z
    refine kws_cons (wpAny_Constant_int (kws_nil ?_))
    refine enum_begins_start (begins_list a its.toArray) p'.isList hk0 hk1 fun h' he hit hsz hkp => wpAny_pyIter_enum he ?_
    have I2 : Inv X pins σ H1 { s1 with heap := h', toks := s1.toks + 1 } := I1.kept hkp
    refine ⟨s1.heap.objs.size + 1, [s1.heap.objs.size + 1, s1.heap.objs.size], _, _, H1, rfl, I2, turn_enumK a (s1.heap.objs.size + 1) s1.heap.objs.size xs.length k (Nat.ne_of_lt hal) (Nat.succ_ne_self _) (Nat.ne_of_gt (Nat.lt_succ_of_lt hal)), ⟨⟨.none, ?_⟩, Nat.zero_le _, ⟨_, hit, rfl, rfl⟩⟩, fun b hb => ?_, q⟩
    · rw [show k + ((0 : Nat) : Int) = k by omega]; exact he
    · have e' : b = s1.heap.objs.size + 1 ∨ b = s1.heap.objs.size := by simpa using hb
      have hle : s1.heap.objs.size ≤ b := by
        rcases e' with z | z
        · rw [z]; exact Nat.le_add_right _ _
        · rw [z]; exact Nat.le_refl _
      exact I1.fpOk hle (I1.hok.fresh hle)
end VE

/-! Curves with the same values have the same form. -/
namespace VM
theorem Rep.congr {f h : Int → Int} {n p g : Int} (e : ∀ t : Int, 0 ≤ t → f t = h t) (hp : 0 < p) (hpn : p ≤ n) (R : Rep f n p g) : Rep h n p g := fun t ht => by
  rw [← e t (by omega), ← e (t - p) (by omega)]; exact R t ht
theorem Rep.weak {f : Int → Int} {n m p g : Int} (R : Rep f n p g) (h : n ≤ m) : Rep f m p g := fun t ht => R t (by omega)
/-- from somewhere on each d further lengths add the same -/
def Per (f : Int → Int) (d : Nat) : Prop := 0 < d ∧ ∃ N s : Int, Rep f N d s
theorem rep_gain {f : Int → Int} {n m p g e : Int} (R : Rep f n p g) (S : Rep f m p e) : g = e := by
  by_cases c : n ≤ m
  · have a := R (m + 1) (by omega)
    have b := S (m + 1) (by omega)
    omega
  · have a := R (n + 1) (by omega)
    have b := S (n + 1) (by omega)
    omega
/-- the least one divides each -/
theorem per_dvd' {f : Int → Int} {d : Nat} (D : Per f d) (no : ∀ c, Per f c → d ≤ c) {p : Nat} (P : Per f p) : d ∣ p := by
  by_cases z : p % d = 0
  · exact Nat.dvd_of_mod_eq_zero z
  exfalso
  obtain ⟨d0, N, s, R⟩ := D
  obtain ⟨p0, M, g, S⟩ := P
  have lt := Nat.mod_lt p d0
  have eq := Nat.div_add_mod p d
  have hc : Per f (p % d) := by
    refine ⟨by omega, max (N + (p / d : Nat) * (d : Int) + p) M, g - (p / d : Nat) * s, fun t ht => ?_⟩
    have a := S t (by omega)
    have b := R.times (by omega) (p / d) (t - ((p % d : Nat) : Int)) (by omega)
    have e2 : ((p / d : Nat) : Int) * (d : Int) + ((p % d : Nat) : Int) = (p : Int) := by
      have : d * (p / d) + p % d = p := eq
      rw [Nat.mul_comm] at this
      exact_mod_cast this
    rw [show t - ((p % d : Nat) : Int) - ((p / d : Nat) : Int) * (d : Int) = t - p by omega] at b
    omega
  have := no _ hc
  omega
theorem steps_of {f : Int → Int} {n p d s : Int} (h : ∀ t : Int, n < t → t ≤ n + p → f t = f (t - d) + s) : stepsEq f n p d = true := by
  unfold stepsEq
  rw [List.all_eq_true]
  intro i hi
  have hi := List.mem_range.mp hi
  have a := h (n + 1 + i) (by omega) (by omega)
  have b := h (n + 1) (by omega) (by omega)
  exact decide_eq_true (by omega)
/-- what holds from somewhere on holds behind n -/
theorem per_now {f : Int → Int} {n p g N d s : Int} (R : Rep f n p g) (hp : 0 < p) (S : Rep f N d s) (hd : 0 < d) (hdp : d ≤ p) : Rep f n d s := by
  intro t ht
  obtain ⟨k, hk⟩ : ∃ k : Nat, N < t + (k : Int) * p := by
    refine ⟨(N - t + 1).toNat, ?_⟩
    have := Int.mul_le_mul_of_nonneg_left (show (1 : Int) ≤ p by omega) (show (0 : Int) ≤ ((N - t + 1).toNat : Int) by omega)
    omega
  have a := R.times hp k (t + k * p) (by omega)
  have b := R.times hp k (t - d + k * p) (by omega)
  have c := S (t + k * p) hk
  rw [show t + (k : Int) * p - k * p = t by omega] at a
  rw [show t - d + (k : Int) * p - k * p = t - d by omega] at b
  rw [show t + (k : Int) * p - d = t - d + k * p by omega] at c
  omega
theorem leastFrom_is {f : Int → Int} {n p g : Int} {d : Nat} (R : Rep f n p g) (hp : 0 < p) (D : Per f d) (no : ∀ c, Per f c → d ≤ c) (dv : (d : Int) ∣ p) : ∀ (k : Nat) (c : Int), 0 < c → c + k = p → c ≤ d → (leastFrom f n p k c).1 = d
  | 0, c, hc, e, hcd => by
    have := Int.le_of_dvd hp dv
    unfold leastFrom
    show p = d
    omega
  | k + 1, c, hc, e, hcd => by
    have dp := Int.le_of_dvd hp dv
    unfold leastFrom
    by_cases z : p % c = 0 ∧ stepsEq f n p c = true
    · rw [if_pos z]
      have pc : Per f c.toNat := ⟨by omega, n, _, by rw [Int.toNat_of_nonneg (by omega)]; exact R.of_steps hc (by omega) z.2⟩
      have := no _ pc
      show c = d
      omega
    · rw [if_neg z]
      refine leastFrom_is R hp D no dv k (c + 1) (by omega) (by omega) ?_
      by_cases y : c = d
      · exfalso
        apply z
        subst y
        obtain ⟨d0, N, s, S⟩ := D
        exact ⟨Int.emod_eq_zero_of_dvd dv, steps_of fun t h1 h2 => per_now R hp S (by omega) dp t h1⟩
      · omega
theorem shr_min {f : Int → Int} {d s : Int} : ∀ m : Nat, shr f d s m = 0 ∨ (shr f d s m : Int) ≤ d ∨ f (shr f d s m) ≠ f ((shr f d s m : Nat) - d) + s
  | 0 => .inl rfl
  | m + 1 => by
    unfold shr
    by_cases c : d < (m + 1 : Nat) ∧ f ((m + 1 : Nat) : Int) = f ((m + 1 : Nat) - d) + s
    · rw [if_pos c]; exact shr_min m
    · rw [if_neg c]
      refine .inr ?_
      by_cases z : ((m + 1 : Nat) : Int) ≤ d
      · exact .inl z
      · exact .inr fun y => c ⟨by omega, y⟩
theorem shr_uniq {f : Int → Int} {d s : Int} (hd : 0 < d) {m k : Nat} (h1 : d ≤ m) (h2 : d ≤ k) (R : Rep f m d s) (S : Rep f k d s) : shr f d s m = shr f d s k := by
  obtain ⟨a1, a2, a3⟩ := shr_spec hd m h1 R
  obtain ⟨b1, b2, b3⟩ := shr_spec hd k h2 S
  have m1 := shr_min (f := f) (d := d) (s := s) m
  have m2 := shr_min (f := f) (d := d) (s := s) k
  by_cases c : shr f d s m < shr f d s k
  · exfalso
    rcases m2 with h | h | h
    · omega
    · omega
    · exact h (a3 _ (by omega))
  · by_cases c2 : shr f d s k < shr f d s m
    · exfalso
      rcases m1 with h | h | h
      · omega
      · omega
      · exact h (b3 _ (by omega))
    · omega
theorem shr_cong {f h : Int → Int} {d s : Int} (e : ∀ t : Int, 0 ≤ t → f t = h t) : ∀ m : Nat, shr f d s m = shr h d s m
  | 0 => rfl
  | m + 1 => by
    unfold shr
    by_cases c : d < (m + 1 : Nat)
    · rw [e _ (by omega), e ((m + 1 : Nat) - d) (by omega), shr_cong e m]
    · rw [if_neg (fun z => c z.1), if_neg (fun z => c z.1)]
/-- curves with the same values have the same form -/
theorem form_unique {vs ws : List Int} {p g q e : Int} (hp : 0 < p) (hpn : p ≤ vs.length) (hq : 0 < q) (hqn : q ≤ ws.length) (eq : ∀ t : Int, 0 ≤ t → cvAt vs p g t = cvAt ws q e t) :
    formP vs p g = formP ws q e ∧ formV vs p g = formV ws q e := by
  have R : Rep (cvAt vs p g) vs.length p g := Rep.cvAt hp hpn
  have S : Rep (cvAt ws q e) ws.length q e := Rep.cvAt hq hqn
  have S' : Rep (cvAt vs p g) ws.length q e := S.congr (fun t ht => (eq t ht).symm) hq hqn
  have Pp : Per (cvAt vs p g) p.toNat := ⟨by omega, _, _, by rw [Int.toNat_of_nonneg (by omega)]; exact R⟩
  have Pq : Per (cvAt vs p g) q.toNat := ⟨by omega, _, _, by rw [Int.toNat_of_nonneg (by omega)]; exact S'⟩
  obtain ⟨d, D, no⟩ := least_nat ⟨p.toNat, Pp⟩
  have no' : ∀ c, Per (cvAt vs p g) c → d ≤ c := fun c hc => by
    by_cases z : d ≤ c
    · exact z
    · exact absurd hc (no c (by omega))
  have toI : ∀ {x : Int}, 0 < x → d ∣ x.toNat → (d : Int) ∣ x := fun {x} hx h => by
    have := Int.natCast_dvd_natCast.mpr h
    rwa [Int.toNat_of_nonneg (by omega)] at this
  have dvp := toI hp (per_dvd' D no' Pp)
  have dvq := toI hq (per_dvd' D no' Pq)
  have D' : Per (cvAt ws q e) d := by
    obtain ⟨d0, N, s, T⟩ := D
    have dq := Int.le_of_dvd hq dvq
    exact ⟨d0, ws.length, s, (per_now S' hq T (by omega) dq).congr eq (by omega) (by omega)⟩
  have no2 : ∀ c, Per (cvAt ws q e) c → d ≤ c := fun c hc => by
    obtain ⟨c0, N, s, T⟩ := hc
    refine no' c ⟨c0, max N c, s, Rep.congr (fun t ht => (eq t ht).symm) (by omega) (by omega) (T.weak (by omega))⟩
  have e1 : (formP vs p g).1 = d := leastFrom_is R hp D no' dvp _ 1 (by omega) (by omega) (by have := D.1; omega)
  have e2 : (formP ws q e).1 = d := leastFrom_is S hq D' no2 dvq _ 1 (by omega) (by omega) (by have := D.1; omega)
  obtain ⟨a1, a2, a3⟩ := leastP_spec R hp
  obtain ⟨b1, b2, b3⟩ := leastP_spec S hq
  have a3 : Rep (cvAt vs p g) vs.length (formP vs p g).1 (formP vs p g).2 := a3
  have b3 : Rep (cvAt ws q e) ws.length (formP ws q e).1 (formP ws q e).2 := b3
  have a2 : (formP vs p g).1 ≤ p := a2
  have b2 : (formP ws q e).1 ≤ q := b2
  have a1 : 0 < (formP vs p g).1 := a1
  have b1 : 0 < (formP ws q e).1 := b1
  have b3' : Rep (cvAt vs p g) ws.length (formP ws q e).1 (formP ws q e).2 := b3.congr (fun t ht => (eq t ht).symm) b1 (by omega)
  have ep : (formP vs p g).1 = (formP ws q e).1 := by rw [e1, e2]
  rw [← ep] at b3' b2
  have eg : (formP vs p g).2 = (formP ws q e).2 := rep_gain a3 b3'
  rw [← eg] at b3'
  have E : formP vs p g = formP ws q e := Prod.ext ep eg
  refine ⟨E, ?_⟩
  unfold formV formM
  rw [← E, ← shr_cong eq ws.length, shr_uniq a1 (by omega) (by omega) a3 b3']
  exact vals_congr eq
end VM

/-! str(x) of an object with an own __str__ -/
namespace VO
open PySem PySem.Spec PyProof.Rows L2
section
variable {X : Cx} {CX : CXT} {k : Nat} {f C : Addr} {fd : FuncData} {ps : List Str} {sp : Sp} {E : XK}
theorem call_strOwn (F : FnOk X.prog X.w X.K X.mg X.base CX k f fd ps sp) (hr : Room (k + 2) X.A) (o : Meth X.K C "__str__" f) (hb : Binds X.K fd ps []) (hx : Passes CX X E) :
    CallR X (.type "str") (VN.rReprOwn C sp E) := by
  intro pins s σ H xs us Q I r h
  obtain ⟨a, dx, fs, rfl, ea, hsp⟩ := h
  obtain ⟨u, rfl, ru⟩ := vals1 r
  obtain rfl : u = Value.ref a := ru
  obtain ⟨mA, J, _⟩ := ins_get I.hok ea
  obtain ⟨od, J, _⟩ := J.look
  refine PySem.W.kso_call hr.in1.in1.units0 I.kIn J o.at_ o.fn ?_
  have hl := F.len _ _ _ _ hsp
  refine wpAny_call (codeAny_mono (F.run X.A.in1.in1 X.stack s H ⟨[.ref a], []⟩ [.ref a] [.ref a] _ E hr.in1.in1 I.env0.in1.in1 (by
    have := hb s [.ref a] I.kIn (by simpa using hl)
    simpa using this) (.cons rfl .nil) hsp) fun r s' hq => ?_)
  cases r with
  | error e => exact hx pins σ H s e s' I hq
  | ok fl =>
    cases fl with
    | ret w =>
      obtain ⟨z, H', I', rz, y, ez, q⟩ := I.after hq
      subst ez
      obtain ⟨t, rfl⟩ := rz
      exact ⟨.str y, H', I', ⟨t, rfl⟩, q⟩
    | next => exact False.elim hq
    | brk => exact False.elim hq
    | cont => exact False.elim hq
end
end VO

/-! Texts made of plain texts: how long their repr may be. -/
namespace VT
open PySem PySem.Spec PyProof.Rows L2
def Asc (x : Str) : Prop := ∀ c ∈ x.cps.toList, c < 16 ^ 8
theorem Asc.app {a b : Str} (h : Asc a) (k : Asc b) : Asc (a ++ b) := fun c hc => by
  rw [PySem.Str.cps_append, Array.toList_append, List.mem_append] at hc
  exact hc.elim (h c) (k c)
theorem Asc.of (s : String) : Asc (Str.ofString s) := fun c hc => by
  rw [PySem.Str.ofString_eq_toList] at hc
  simp only [List.mem_map] at hc
  obtain ⟨y, _, rfl⟩ := hc
  have h : y.val.toNat < 1114112 := by
    rcases y.valid with h | ⟨_, h⟩
    · exact Nat.lt_trans h (by decide)
    · exact h
  exact Nat.lt_of_lt_of_le h (by decide)
theorem Asc.int (i : Int) : Asc ((toString i : String) : Str) := Asc.of _
theorem Asc.from_ : ∀ (ts : List Str) (k : Nat) (acc : Str), Asc acc → (∀ t ∈ ts, Asc t) → Asc (textFrom k acc ts)
  | [], k, acc, h, _ => h
  | t :: ts, k, acc, h, ht => by
    unfold textFrom
    refine Asc.from_ ts _ _ ?_ fun x hx => ht x (List.mem_cons_of_mem _ hx)
    exact (h.app (Asc.of _)).app (ht t (List.mem_cons_self ..))
theorem Asc.list {ts : List Str} (h : ∀ t ∈ ts, Asc t) : Asc (listText ts) := (Asc.from_ ts 0 "[" (Asc.of _) h).app (Asc.of _)
theorem Asc.sjoin {sep : Str} (hs : Asc sep) : ∀ {l : List Str}, (∀ t ∈ l, Asc t) → Asc (Str.join sep l)
  | [], _ => Asc.of ""
  | [x], h => h x (by simp)
  | x :: y :: l, h => by
    show Asc (x ++ sep ++ Str.join sep (y :: l))
    exact ((h x (by simp)).app hs).app (Asc.sjoin hs fun t ht => h t (List.mem_cons_of_mem _ ht))
theorem Asc.join {sep : Str} (hs : Asc sep) {l : List Str} (h : ∀ t ∈ l, Asc t) : Asc (Txt.join sep l) := by
  cases l with
  | nil => exact Asc.of ""
  | cons a r =>
    have e : Txt.join sep (a :: r) = Str.join sep (a :: r) := StrLaws.glued_eq_join ..
    rw [e]
    exact Asc.sjoin hs h
theorem Asc.ints (us : List Int) : Asc (PyData.shown (.list (us.map PyData.int))) := by
  simp only [PyData.shown]
  refine Asc.list fun t ht => ?_
  have e : ∀ us : List Int, PyData.shownAll (us.map PyData.int) = us.map fun i => (toString i : Str) := by
    intro us
    induction us with
    | nil => rfl
    | cons u us ih => simp only [List.map_cons, PyData.shownAll, ih, PyData.shown]
  rw [e] at ht
  obtain ⟨u, _, rfl⟩ := List.mem_map.mp ht
  exact Asc.int u
theorem Sz.str {x : Str} {n : Nat} (h : Asc x) (hn : x.length ≤ n) : VR.Sz 0 (10 * n + 2) (.str x) :=
  ⟨rfl, Nat.zero_le _, by
    have := StrLaws.reprText_len x h
    show (reprText x).length ≤ _
    omega⟩
end VT

/-! A method called with keywords alone; further rules. -/
namespace VP
open PySem PySem.Spec PyProof.Rows L2
def tMethKw0 (C : Addr) (m : Str) (j : Nat) (sp : Sp) (gV : List V → List V → List V) (E : XK) (ta : TE) (tk : TA) : TE := fun σ H Q =>
  ta σ H fun x H1 => ∃ a dx fs, x = .ref a ∧ H1 a = some (.ins C dx fs) ∧ fs.lookup m = none ∧ tk σ H1 fun zs H3 => zs.length = j ∧ sp (gV [x] zs) H3 Q E
theorem pe_methKw0 {X : Cx} {CX : CXT} {k : Nat} {f C : Addr} {fd : FuncData} {ps ks : List Str} {sp : Sp} {E : XK} {m : Str} {pos apos : Pos} {o : Expr} {kws : List Keyword} {ta : TE} {tk : TA}
    {g : List Value → List Value → List Value} {gV : List V → List V → List V} {pl : Sem Bool}
    (he : PE X o ta) (c : Cls X.K C) (hm : Meth X.K C m f) (F : FnOk X.prog X.w X.K X.mg X.base CX k f fd ps sp) (hr : Room k X.A)
    (hb : KBn X.K fd ps 1 ks g gV) (hx : Passes CX X E) (hkw : PK X kws tk)
    (hall : (backToKw pos (keywordEach kws X.env)).all (·.1.isSome) = true := by rfl) (hks : (backToKw pos (keywordEach kws X.env)).filterMap (·.1) = ks := by rfl)
    (hpl : ((backTo pos (starEach [] X.env)).any (·.1) || (backToKw pos (keywordEach kws X.env)).any (·.1.isNone)) = false := by rfl)
    (ht : eval (.Call (.Attribute o m apos) [] kws pos) X.env = (do
      let ov ← eval o X.env
      standAt apos.atName
      let (f, first) ← holding [ov] (getMethod ov m pl)
      callWith pos f first (backTo pos (starEach [] X.env)) (backToKw pos (keywordEach kws X.env))) := by rfl) :
    PE X (.Call (.Attribute o m apos) [] kws pos) (tMethKw0 C m ks.length sp gV E ta tk) := by
  constructor
  intro pins s σ H Q I h
  refine PySem.W.methodCall_KW (pl := pl) (thn (he.run pins s σ H _ I h) ?_) ht
  rintro u s1 ⟨x, H1, I1, rx, a, dx, fs, ex, ea, l, q⟩
  subst ex
  obtain rfl : u = Value.ref a := rx
  refine getmeth_ok I1 ea c hm l ?_
  refine PySem.W.callWith_KW0 (first := [.ref a]) (h₀ := X.base) I1.ok.mod.kin hm.kp hall ?_ hpl
  refine thn (hkw.run pos pins s1 σ H1 _ I1 q) ?_
  rintro ws s3 ⟨zs, H3, I3, rz, l2, q3⟩
  refine ⟨I3.kIn, ?_⟩
  rw [hks]
  have r1 : Vals [V.ref a] [Value.ref a] := .cons rfl .nil
  have rel := hb.rel r1 rz
  have bind := hb.to s3 [Value.ref a] ws I3.kIn rfl (rz.length.symm.trans l2)
  show wpAny _ _ (call (.ref f) [Value.ref a] (ks.zip ws)) _ _ _
  refine wpAny_call (codeAny_mono (F.run X.A X.stack s3 H3 ⟨[Value.ref a], ks.zip ws⟩ _ _ Q E hr I3.env0 bind rel q3) ?_)
  intro res s' hq
  match res, hq with
  | .error e, hq => exact hx pins σ H3 s3 e s' I3 hq
  | .ok (.ret u), hq => exact I3.after hq
  | .ok .next, hq => exact False.elim hq
  | .ok .brk, hq => exact False.elim hq
  | .ok .cont, hq => exact False.elim hq
/-- c(e, .., k = v, ..), where the i-th slot holds the class at C -/
def tMakeKL (i : Nat) (C : Addr) (n m : Nat) (sp : Sp) (gV : List V → List V → List V) (E : XK) (t tk : TA) : TE := fun σ H Q => σ[i]? = some (some (.ref C)) ∧ tMakeK C n m sp gV E t tk σ H Q
theorem pe_makeKL {X : Cx} {CX : CXT} {k n i : Nat} {f C : Addr} {fd : FuncData} {ps ks : List Str} {sp : Sp} {E : XK} {x : Str} {p pos : Pos} {e : Expr} {es : List Expr} {kws : List Keyword} {t tk : TA}
    {g : List Value → List Value → List Value} {gV : List V → List V → List V} (M : Mk X.K C f) (F : FnOk X.prog X.w X.K X.mg X.base CX k f fd ps sp) (hr : Room (k + 1) X.A) (hN : X.N[i]? = some x) (hv : Vis X.env.scope x)
    (hb : KBn X.K fd ps (n + 1) ks g gV) (hx : Passes CX X E) (ha : PA X (e :: es) t) (hkw : PK X kws tk)
    (hall : (backToKw pos (keywordEach kws X.env)).all (·.1.isSome) = true := by rfl) (hks : (backToKw pos (keywordEach kws X.env)).filterMap (·.1) = ks := by rfl) (hdb : (x == ("__debug__" : Str)) = false := by decide) (hcd : (x == ("__classdict__" : Str)) = false := by decide)
    (he : starEach (e :: es) X.env = (false, eval e X.env) :: starEach es X.env := by rfl) (hpl : ((backTo pos (starEach (e :: es) X.env)).any (·.1) || (backToKw pos (keywordEach kws X.env)).any (·.1.isNone)) = false := by rfl) :
    PE X (.Call (.Name x p) (e :: es) kws pos) (tMakeKL i C n ks.length sp gV E t tk) := by
  refine ⟨fun pins s σ H Q I h => ?_⟩
  obtain ⟨hs, ht⟩ := h
  refine wpAny_Call_Name_kw (thn ((pe_var (pos := p) hN hv hdb hcd).run pins s σ H (fun v H1 => v = .ref C ∧ H1 = H) I ⟨.ref C, hs, rfl, rfl⟩) fun u s1 ⟨v, H1, I1, r1, q1⟩ => ?_)
  obtain ⟨rfl, rfl⟩ := q1
  cases r1
  refine PySem.W.callWith_KW (h₀ := X.base) I.ok.mod.kin M.kp hall (thn (ha.run pos pins s1 σ _ _ I1 ht) fun us s1 ⟨vs, H1, I1, r, q⟩ => ?_) hpl he
  refine thn (hkw.run pos pins s1 σ H1 _ I1 q) fun ws s2 ⟨zs, H2, I2, rz, l1, l2, q2⟩ => ⟨I2.kIn, ?_⟩
  rw [hks]
  exact run_makeK M F hr hb hx I2 r rz l1 l2 q2
/-- a def f(a, *v), no exception leaves it -/
theorem okStar {P : Program} {w : World} {K : PySem.W.Frag} {mg : Str → Option Value} {base : Heap} {x qual p1 pv : Str} {st : Stmt} {f : Addr} {fd : FuncData} {N : List Str} {k : Nat} {sp : Sp} (F : Fun K x qual st f fd) (S : FnScope N [p1, pv] (defScope st))
    (h0 : ∀ kV doc pm an cdv ct a, bindArgs (PySem.W.fnOf x qual (defArgs st) (defBody st) (defScope st) .none kV doc pm an cdv ct) ⟨[a], []⟩ = (newTuple [] >>= fun t => pure [(p1, a), (pv, t)]))
    (h1 : ∀ kV doc pm an cdv ct a r rs, bindArgs (PySem.W.fnOf x qual (defArgs st) (defBody st) (defScope st) .none kV doc pm an cdv ct) ⟨a :: r :: rs, []⟩ = (newTuple (r :: rs) >>= fun t => pure [(p1, a), (pv, t)]))
    (hbody : ∀ (cdv : Value) (A : Around) (outer : List Env) (s : Shared) (H : Hp) (vs : List V) (Q : VK) (E : XK), Room k (A.deeper (envOfC qual (defScope st) s.heap.objs.size f cdv)) → sp vs H Q E →
      ∃ t, PSs (cxOf CX0 P w K mg base N qual (defScope st) f cdv A outer s H E).nox (defBody st) t ∧ t { nx := fun _ H' => Q .non H', rt := Q } (start N vs) H) :
    FnR P w K mg base CX0 (k + 1) f (fun vs H Q E => ∃ a rest, vs = a :: rest ∧ rest.length ≤ sizeLine ∧ ∀ p, H p = Option.none → sp [a, V.ref p] (upd H p (.tup rest)) Q E) := by
  obtain ⟨oc, od, kV, doc, pm, an, cdv, ct, osl, rfl, lk, hcd⟩ := F.ex
  refine (StX.fn_star (ps := [p1]) lk hcd S StX.cxUp_none (fun us rest hl => StX.bind_star1 (B := fun vs => bindArgs _ ⟨vs, []⟩) (fun a => h0 _ _ _ _ _ _ a) (fun a r rs => h1 _ _ _ _ _ _ a r rs) us rest hl) (fun A outer s H vs Q E hr hsp => ?_)).imp fun vs H Q E ⟨a, rest, e, hz, hq⟩ => ⟨[a], rest, e, rfl, hz, hq⟩
  obtain ⟨t, h, q⟩ := hbody cdv A outer s H vs Q E hr hsp
  exact ⟨t, h.nox, q⟩
/-- .. exceptions may leave it -/
theorem okStarX {P : Program} {w : World} {K : PySem.W.Frag} {mg : Str → Option Value} {base : Heap} {x qual p1 pv : Str} {st : Stmt} {f : Addr} {fd : FuncData} {N : List Str} {k : Nat} {sp : Sp} (F : Fun K x qual st f fd) (S : FnScope N [p1, pv] (defScope st))
    (h0 : ∀ kV doc pm an cdv ct a, bindArgs (PySem.W.fnOf x qual (defArgs st) (defBody st) (defScope st) .none kV doc pm an cdv ct) ⟨[a], []⟩ = (newTuple [] >>= fun t => pure [(p1, a), (pv, t)]))
    (h1 : ∀ kV doc pm an cdv ct a r rs, bindArgs (PySem.W.fnOf x qual (defArgs st) (defBody st) (defScope st) .none kV doc pm an cdv ct) ⟨a :: r :: rs, []⟩ = (newTuple (r :: rs) >>= fun t => pure [(p1, a), (pv, t)]))
    (hbody : ∀ (cdv : Value) (A : Around) (outer : List Env) (s : Shared) (H : Hp) (vs : List V) (Q : VK) (E : XK), Room k (A.deeper (envOfC qual (defScope st) s.heap.objs.size f cdv)) → sp vs H Q E →
      ∃ t, PSs (cxOf (L2.CX P w) P w K mg base N qual (defScope st) f cdv A outer s H E) (defBody st) t ∧ t { nx := fun _ H' => Q .non H', rt := Q } (start N vs) H) :
    FnR P w K mg base (L2.CX P w) (k + 1) f (fun vs H Q E => ∃ a rest, vs = a :: rest ∧ rest.length ≤ sizeLine ∧ ∀ p, H p = Option.none → sp [a, V.ref p] (upd H p (.tup rest)) Q E) := by
  obtain ⟨oc, od, kV, doc, pm, an, cdv, ct, osl, rfl, lk, hcd⟩ := F.ex
  refine (StX.fn_star (ps := [p1]) lk hcd S StX.cxUp (fun us rest hl => StX.bind_star1 (B := fun vs => bindArgs _ ⟨vs, []⟩) (fun a => h0 _ _ _ _ _ _ a) (fun a r rs => h1 _ _ _ _ _ _ a r rs) us rest hl) (fun A outer s H vs Q E hr hsp => ?_)).imp fun vs H Q E ⟨a, rest, e, hz, hq⟩ => ⟨[a], rest, e, rfl, hz, hq⟩
  exact hbody cdv A outer s H vs Q E hr hsp
theorem pi_listK {X : Cx} {K' : PySem.W.Frag} {tg l : Expr} {tl : TE} (hl : PE X l tl) (hK : X.K = K') : PI X tg l (iList K' tl) := by
  subst hK; exact pi_list hl
theorem pi_tupK {X : Cx} {K' : PySem.W.Frag} {tg l : Expr} {tl : TE} (hl : PE X l tl) (hK : X.K = K') : PI X tg l (iTup K' tl) := by
  subst hK; exact pi_tup hl
/-- C.m(), m a classmethod of the class at C -/
theorem pe_cmeth0 {X : Cx} {CX : CXT} {k : Nat} {C p g : Addr} {mc : Value} {sp : Sp} {E : XK} {o : Expr} {m : Str} {pos apos : Pos} {ta : TE} {pl : Sem Bool} (he : PE X o ta) (r : ClX.CRead X.K C mc) (c : ClX.CMet X.K C mc m p g) (F : FnR X.prog X.w X.K X.mg X.base CX k g sp) (hr : Room k X.A) (hx : Passes CX X E)
    (ht : eval (.Call (.Attribute o m apos) [] [] pos) X.env = (do
      let ov ← eval o X.env
      standAt apos.atName
      let (f, first) ← holding [ov] (getMethod ov m pl)
      callWith pos f first (backTo pos (starEach [] X.env)) (backToKw pos (keywordEach [] X.env))) := by rfl) :
    PE X (.Call (.Attribute o m apos) [] [] pos) (ClX.tCMeth C sp E ta tNil) := by
  refine ⟨fun pins s σ H Q I h => ?_⟩
  refine PySem.W.methodCall_KW (pl := pl) (thn (he.run pins s σ H _ I h) fun u s1 ⟨x, H1, I1, rx, ex, q⟩ => ?_) ht
  subst ex
  obtain rfl : u = Value.ref C := rx
  refine ClX.getmethcm_ok I1 r c fun s2 I2 => ?_
  exact PySem.W.callWith_M0 (first := []) ⟨ClX.pin_at I2, I2.kIn⟩ c.fi (ClX.run_cm (us := []) (vs := []) F hr hx I2 .nil q)
end VP

/-! for i, x in enumerate(t), t a tuple -/
namespace PySem
open Sem (wp)
open AutoSeq1 (wpAny_loadPart')
set_option maxHeartbeats 1000000 in
theorem meets_enumerate_one {v : Value} {o : Obj} {H : Heap → Prop} (B : Begins v o H) :
    Meets (Builtin.«enumerate.__new__» ⟨[.type "enumerate", v], []⟩) (fun _ R s => H s.heap ∧
      R (.ok (.ret (.ref (s.heap.push o).objs.size))) { s with heap := (s.heap.push o).push { cls := .type "enumerate", data := .fields #[.none, .bool false, .ref s.heap.objs.size, rawInt 0, .none, .none] } }) :=
  .of_wp fun prog w A R s h => by
    obtain ⟨hp, g, d, tk, os⟩ := s; obtain ⟨h1, h⟩ := h
    have hsub := sub_enumerate
    have q1 : ∀ {A' : Around} {E : Value → Shared → Prop} {Q : Value → Shared → Prop}, Q (.ref hp.objs.size) ⟨hp.push o, g, d, tk, os⟩ → wpAny (model prog w) A' (pyIter v) Q E ⟨hp, g, d, tk, os⟩ :=
      fun q => B.iter prog w _ _ ⟨hp, g, d, tk, os⟩ _ h1 q
    wp_walk using q1
    refine wpAny_stack_any fun st => wpAny_pure ?_
    split
    · rename_i c _ _ _ _ _
      cases (c == Value.type "enumerate")
      · wp_walk using q1
        exact ⟨_, rfl, h⟩
      · wp_walk using q1
        exact ⟨_, rfl, h⟩
    · wp_walk using q1
      exact ⟨_, rfl, h⟩
theorem call_enumerate_one {prog : Program} {w : World} {A : Around} {E : Value → Shared → Prop} {s : Shared} {v : Value} {o : Obj} {H : Heap → Prop} {Q : Value → Shared → Prop} (B : Begins v o H) (h1 : H s.heap)
    (h : ∀ h', IsEnum h' (s.heap.objs.size + 1) s.heap.objs.size 0 .none → h'.get? s.heap.objs.size = some o → h'.objs.size = s.heap.objs.size + 2 →
      (∀ b o, s.heap.get? b = some o → h'.get? b = some o) → Q (.ref (s.heap.objs.size + 1)) { s with heap := h' }) :
    wpAny (model prog w) A (call (.type "enumerate") [v]) Q E s := by
  refine callType_new F.called_enumerate (by decide) (F.typeCall_enumerate_1 _) (F.newCall_enumerate_1 _) (fun obj => F.args_object_init_2 obj _) F.entry_enumerate_new
    (meets_enumerate_one B) ⟨h1, ?_⟩
  have hz : (s.heap.push o).objs.size = s.heap.objs.size + 1 := Heap.size_push ..
  show _ ∧ _
  rw [hz]
  have he : IsEnum ((s.heap.push o).push { cls := .type "enumerate", data := .fields #[.none, .bool false, .ref s.heap.objs.size, rawInt 0, .none, .none] }) (s.heap.objs.size + 1) s.heap.objs.size 0 .none := by
    have := Heap.get?_push_size (s.heap.push o) (o := { cls := .type "enumerate", data := .fields #[.none, .bool false, .ref s.heap.objs.size, rawInt 0, .none, .none] }) rfl
    rw [hz] at this; exact this
  refine ⟨⟨_, he, rfl⟩, h _ he (Heap.get?_push_of_some _ (Heap.get?_push_size _ B.free)) (by rw [Heap.size_push, hz]) fun b o x => Heap.get?_push_of_some _ (Heap.get?_push_of_some _ x)⟩
end PySem
namespace VE
open PySem PySem.Spec PyProof.Rows L2
/-- k, k + 1, .. with the list at a (n items, which the loop leaves there), in new pairs -/
def Itt_ (K : PySem.W.Frag) (a : Addr) (n : Nat) (k : Int) : It :=
  ⟨fun i H => i < n ∧ ∃ xs : List V, SqT K H a xs ∧ xs.length = n, fun i H v H' => ∃ T x, v = .ref T ∧ H T = none ∧ H' = upd H T (.tup [.int (k + (i : Nat)), x]) ∧ ∀ xs, SqT K H a xs → xs[i]? = some x,
    fun i H => n ≤ i ∧ ∃ xs : List V, SqT K H a xs ∧ xs.length = n⟩
theorem turn_enumT {P : Program} {w : World} {K : PySem.W.Frag} {elts : List Expr} {kk : Nat} {tpos : Pos} (a e it : Addr) (n : Nat) (k : Int) (hai : a ≠ it) (hei : e ≠ it) (hea : e ≠ a) :
    Turn P w K (.Tuple elts kk tpos) (Itt_ K a n k) [e, it] e (fun i h => (∃ old, IsEnum h e it (k + (i : Nat)) old) ∧ i ≤ n ∧ h.IsTupleIter it a i) where
  mem := by simp
  obj := fun i h st b hb => by
    obtain ⟨⟨old, he⟩, _, o, ho, hc, hd⟩ := st
    have e' : b = e ∨ b = it := by simpa using hb
    rcases e' with z | z
    · rw [z]; exact ⟨_, he, fun v q => nomatch q⟩
    · rw [z]; exact ⟨o, ho, fun v q => by rw [hd] at q; cases q⟩
  keep := fun i h h' st kp => let ⟨⟨old, he⟩, hn, hi⟩ := st; ⟨⟨old, kp e (by simp) _ he⟩, hn, hi.at fun o q => kp it (by simp) o q⟩
  item := by
    intro X hP hw hK hc i pins s σ H E I hf st hg
    subst hP hw hK
    obtain ⟨⟨old, he⟩, hin, hit⟩ := st
    obtain ⟨hlt, xs, hq, hl⟩ := hg
    have hx : xs[i]? = some (xs[i]'(by omega)) := List.getElem?_eq_getElem (by omega)
    obtain ⟨its, rv, p, hz⟩ := I.tuple hq
    have hh : X.A.in1.handled = none := I.ok.hd hc
    have hel : e < s.heap.objs.size := Heap.lt_size he
    have hil : it < s.heap.objs.size := by obtain ⟨_, q, _⟩ := hit; exact Heap.lt_size q
    obtain ⟨u', hu', ru⟩ := rv.get hx
    have hn : its.toArray.size = n := by rw [List.size_toArray, ← rv.length]; exact hl
    have D := Draws.tuple (prog := X.prog) (w := X.w) (A := X.A.in1) hh it a hai its.toArray
    rw [hn] at D
    refine wpAny_pyNext_enum_itemC D he ⟨hit, p⟩ hlt hei (by simp [hei, hea]) fun u h' tk hP ho hs' hT hsz hkp => ?_
    obtain ⟨hit', _⟩ := hs'
    have hP' : its[i]? = some u := by simpa using hP
    have euu : u' = u := by rw [hP'] at hu'; exact (Option.some.inj hu').symm
    subst euu
    refine ⟨_, rfl, wpAny_letOwnedTupleGo_enum (s := { s with heap := h', toks := tk + 1 }) ho fun h'' he' sb => ?_⟩
    have hT2 : h''.get? s.heap.objs.size = some { cls := .type "tuple", data := .seq #[.int (k + (i : Nat)) tk, u'] } := (sb.2 _ (Nat.ne_of_gt hel)).trans hT
    have new : ObjOk X.prog X.w (upd H s.heap.objs.size (.tup [.int (k + (i : Nat)), xs[i]'(by omega)])) h'' s.heap.objs.size (.tup [.int (k + (i : Nat)), xs[i]'(by omega)]) :=
      ⟨by show 2 ≤ sizeLine; decide, [.int (k + (i : Nat)) tk, u'], .cons ⟨_, rfl⟩ (.cons ru .nil), ⟨_, hT2, rfl, _, rfl⟩⟩
    have I1 : Inv X pins σ (upd H s.heap.objs.size (.tup [.int (k + (i : Nat)), xs[i]'(by omega)])) { s with heap := h'', toks := tk + 1 } :=
      I.turnedNew (ch := [e, it]) (fun b ob hb q => (sb.2 b (fun z => hb (by simp [z]))).trans (hkp b ob (fun z => hb (by simp [z])) (fun z => hb (by simp [z])) q)) hf (Nat.le_refl _) new
    refine ⟨.ref s.heap.objs.size, _, I1, rfl, ⟨_, _, rfl, I.hok.fresh (Nat.le_refl _), rfl, fun ys hy => by rw [I.tuple_inj hy hq]; exact hx⟩, ⟨⟨u', ?_⟩, hlt, hit'.at fun o q => (sb.2 it (Ne.symm hei)).trans q⟩, fun b hb => ?_⟩
    · have e1 : k + ((i + 1 : Nat) : Int) = k + (i : Int) + 1 := by omega
      rw [e1]; exact he'
    · have hb' : b < s.heap.objs.size := by
        have e' : b = e ∨ b = it := by simpa using hb
        rcases e' with z | z
        · rw [z]; exact hel
        · rw [z]; exact hil
      rw [upd_ne (Nat.ne_of_lt hb')]
      exact (hf b hb).1
  done := by
    intro X hP hw hK hc i pins s σ H E I hf st hg
    subst hP hw hK
    obtain ⟨⟨old, he⟩, hin, hit⟩ := st
    obtain ⟨hge, xs, hq, hl⟩ := hg
    obtain ⟨its, rv, p, hz⟩ := I.tuple hq
    have hn : its.toArray.size = n := by rw [List.size_toArray, ← rv.length]; exact hl
    have hh : X.A.in1.handled = none := I.ok.hd hc
    obtain ⟨f0, f1, f2, f3, f4, f5⟩ := hf it (by simp)
    have D := Draws.tuple (prog := X.prog) (w := X.w) (A := X.A.in1) hh it a hai its.toArray
    rw [hn] at D
    have ei : i = n := by omega
    subst ei
    exact wpAny_pyNext_enum_endD D he ⟨hit, p⟩ fun h' eb => ⟨rfl, I.turned (t' := s.toks) (fun b o hb q => eb b o hb q) f0 f1 f3 f4 f5⟩
  self := fun A i s Q E st h => let ⟨⟨_, he⟩, _⟩ := st; wpAny_pyIter_enum he h
theorem walk_enumT {K : PySem.W.Frag} {a : Addr} {xs : List V} {k : Int} : Walk (Itt_ K a xs.length k) xs.length (fun H => SqT K H a xs) (YPair (fun i => some (.int (k + (i : Nat)))) (fun i => xs[i]?)) := by
  refine ⟨fun i _ hi q => ⟨hi, xs, q, rfl⟩, fun _ q => ⟨Nat.le_refl _, xs, q, rfl⟩, fun i H v H' _ q y => ?_⟩
  obtain ⟨T, x, h1, h2, h3, h4⟩ := y
  exact ⟨T, .int (k + (i : Nat)), x, h1, h2, h3, rfl, h4 xs q⟩
def iEnumT (K : PySem.W.Frag) (ta : TA) (k : Int) : TI := fun σ H R => ta σ H fun vs H1 => ∃ (a : Addr) (xs : List V), vs = [.ref a] ∧ SqT K H1 a xs ∧ R (Itt_ K a xs.length k) H1
theorem pi_enumT {X : Cx} {e : Expr} {ta : TA} {p pos tpos : Pos} {elts : List Expr} {kk : Nat} (hg : Gl X "enumerate") (hm : X.mg "enumerate" = none) (ha : PA X [e] ta) (hs : starEach [e] X.env = [(false, eval e X.env)] := by rfl) :
    PI X (.Tuple elts kk tpos) (.Call (.Name "enumerate" p) [e] [] pos) (iEnumT X.K ta 0) := by
  refine ⟨fun pins s σ H R I h => ?_⟩
  refine Call_ (ld_blt I hg hm boot_enumerate (PyProof.Rows.callWith_type1 (thn (ha.run pos pins s σ H _ I h) fun us s1 ⟨vs, H1, I1, r1, q1⟩ => ?_) hs rfl))
  obtain ⟨a, xs, ex, hq, q⟩ := q1
  subst ex
  cases r1 with
  | cons r rr =>
    cases rr
    cases r
    obtain ⟨its, rv, p', hz⟩ := I1.tuple hq
    have hT : s1.heap.IsTuple a its.toArray := p'
    have hal : a < s1.heap.objs.size := by obtain ⟨_, z, _⟩ := hT; exact Heap.lt_size z
    refine call_enumerate_one (begins_tuple a its.toArray) hT fun h' he hit hsz hkp => wpAny_pyIter_enum he ?_
    have I2 : Inv X pins σ H1 { s1 with heap := h' } := I1.kept (t' := s1.toks) hkp
    refine ⟨s1.heap.objs.size + 1, [s1.heap.objs.size + 1, s1.heap.objs.size], _, _, H1, rfl, I2, turn_enumT a (s1.heap.objs.size + 1) s1.heap.objs.size xs.length 0 (Nat.ne_of_lt hal) (Nat.succ_ne_self _) (Nat.ne_of_gt (Nat.lt_succ_of_lt hal)), ⟨⟨.none, ?_⟩, Nat.zero_le _, ⟨_, hit, rfl, rfl⟩⟩, fun b hb => ?_, q⟩
    · rw [show (0 : Int) + ((0 : Nat) : Int) = 0 by omega]; exact he
    · have e' : b = s1.heap.objs.size + 1 ∨ b = s1.heap.objs.size := by simpa using hb
      have hle : s1.heap.objs.size ≤ b := by
        rcases e' with z | z
        · rw [z]; exact Nat.le_add_right _ _
        · rw [z]; exact Nat.le_refl _
      exact I1.fpOk hle (I1.hok.fresh hle)
end VE

/-! Lines: what pieces of curves allow. -/
namespace VM
structure Pc where
  b : Int
  u : Int
  t : Int
structure Pc.Ok (q : Pc) : Prop where
  b0 : 0 ≤ q.b
  b1 : q.b ≤ 60
  u0 : 0 ≤ q.u
  u1 : q.u ≤ 60
  t_ : q.t = 1 ∨ q.t = 2 ∨ q.t = 3 ∨ q.t = 4 ∨ q.t = 6 ∨ q.t = 12
def Pc.at (q : Pc) (x : Int) : Int := q.b + (q.u * x + q.t - 1) / q.t
/-- units in twelve ticks -/
def Pc.r (q : Pc) : Int := q.u * 12 / q.t
theorem Pc.Ok.r0 {q : Pc} (h : q.Ok) : 0 ≤ q.r ∧ q.r ≤ 720 := by
  have a := h.u0
  have b := h.u1
  unfold Pc.r
  rcases h.t_ with e | e | e | e | e | e <;> rw [e] <;> omega
theorem Pc.Ok.at_eq {q : Pc} (h : q.Ok) (x : Int) : q.at x = q.b + (q.r * x + 11) / 12 := by
  unfold Pc.at Pc.r
  rcases h.t_ with e | e | e | e | e | e <;> rw [e]
  · rw [show q.u * 12 / 1 = 12 * q.u by omega, Int.mul_assoc]; omega
  · rw [show q.u * 12 / 2 = 6 * q.u by omega, Int.mul_assoc]; omega
  · rw [show q.u * 12 / 3 = 4 * q.u by omega, Int.mul_assoc]; omega
  · rw [show q.u * 12 / 4 = 3 * q.u by omega, Int.mul_assoc]; omega
  · rw [show q.u * 12 / 6 = 2 * q.u by omega, Int.mul_assoc]; omega
  · rw [show q.u * 12 / 12 = 1 * q.u by omega, Int.mul_assoc]; omega
/-- rounded down of the negative, subtracted -/
theorem Pc.Ok.at_neg {q : Pc} (h : q.Ok) (x : Int) : q.b - (-q.u * x) / q.t = q.at x := by
  unfold Pc.at
  rw [Int.neg_mul]
  rcases h.t_ with e | e | e | e | e | e <;> rw [e] <;> omega
/-- rounded down, one more for a rest -/
theorem Pc.Ok.at_rest {q : Pc} (h : q.Ok) (x : Int) : q.b + (q.u * x) / q.t + (if (q.u * x) % q.t > 0 then 1 else 0) = q.at x := by
  unfold Pc.at
  rcases h.t_ with e | e | e | e | e | e <;> rw [e] <;> split <;> omega
theorem Pc.Ok.up {q : Pc} (h : q.Ok) (x : Int) : q.at x ≤ q.at (x + 1) := by
  have := h.r0.1
  rw [h.at_eq, h.at_eq, Int.mul_add]
  omega
theorem Pc.Ok.nn {q : Pc} (h : q.Ok) {x : Int} (hx : 0 ≤ x) : 0 ≤ q.at x := by
  have := Int.mul_nonneg h.r0.1 hx
  have := h.b0
  rw [h.at_eq]
  omega
theorem Pc.Ok.hi {q : Pc} (h : q.Ok) {x : Int} (hx : 0 ≤ x) : q.at x ≤ 60 + 60 * x := by
  have := Int.mul_le_mul_of_nonneg_right h.r0.2 hx
  have := h.b1
  rw [h.at_eq]
  omega
theorem Pc.Ok.far {q : Pc} (h : q.Ok) (x : Int) : q.at (x + 12) = q.at x + q.r := by
  rw [h.at_eq, h.at_eq, Int.mul_add]
  omega
def minOf {α : Type} (f : α → Int) : List α → Int
  | [] => 0
  | [a] => f a
  | a :: b :: l => min (f a) (minOf f (b :: l))
theorem minOf_is {α : Type} (f : α → Int) : ∀ {l : List α}, l ≠ [] → (∃ a ∈ l, minOf f l = f a) ∧ ∀ a ∈ l, minOf f l ≤ f a
  | [], h => absurd rfl h
  | [a], _ => ⟨⟨a, List.mem_singleton.mpr rfl, rfl⟩, fun b hb => by rw [List.mem_singleton.mp hb]; exact Int.le_refl _⟩
  | a :: b :: l, _ => by
    obtain ⟨⟨c, hc, e⟩, lo⟩ := minOf_is f (l := b :: l) (by simp)
    have d : minOf f (a :: b :: l) = min (f a) (minOf f (b :: l)) := rfl
    rw [d]
    refine ⟨?_, fun x hx => ?_⟩
    · by_cases z : f a ≤ minOf f (b :: l)
      · exact ⟨a, List.mem_cons_self, by omega⟩
      · exact ⟨c, List.mem_cons_of_mem _ hc, by omega⟩
    · rcases List.mem_cons.mp hx with h | h
      · subst h; omega
      · have := lo x h; omega
theorem minOf_eq {α : Type} {f : α → Int} {l : List α} {m : Int} (hm : m ∈ l.map f) (h : ∀ y ∈ l.map f, m ≤ y) : m = minOf f l := by
  have ne : l ≠ [] := fun z => by subst z; cases hm
  obtain ⟨⟨a, ha, e⟩, lo⟩ := minOf_is f ne
  obtain ⟨c, hc, rfl⟩ := List.mem_map.mp hm
  have := lo c hc
  have := h (f a) (List.mem_map.mpr ⟨a, ha, rfl⟩)
  omega
def maxOf {α : Type} (f : α → Int) (l : List α) : Int := -(minOf (fun a => -(f a)) l)
theorem maxOf_is {α : Type} (f : α → Int) {l : List α} (h : l ≠ []) : (∃ a ∈ l, maxOf f l = f a) ∧ ∀ a ∈ l, f a ≤ maxOf f l := by
  obtain ⟨⟨a, ha, e⟩, lo⟩ := minOf_is (fun a => -(f a)) h
  unfold maxOf
  exact ⟨⟨a, ha, by omega⟩, fun c hc => by have := lo c hc; omega⟩
theorem maxOf_eq {α : Type} {f : α → Int} {l : List α} {m : Int} (hm : m ∈ l.map f) (h : ∀ y ∈ l.map f, y ≤ m) : m = maxOf f l := by
  have ne : l ≠ [] := fun z => by subst z; cases hm
  obtain ⟨⟨a, ha, e⟩, lo⟩ := maxOf_is f ne
  obtain ⟨c, hc, rfl⟩ := List.mem_map.mp hm
  have := lo c hc
  have := h (f a) (List.mem_map.mpr ⟨a, ha, rfl⟩)
  omega
/-- the least of the lines -/
def lnF (qs : List Pc) (x : Int) : Int := if x = 0 then 0 else minOf (fun q => q.at x) qs
theorem lnF_pos {qs : List Pc} {x : Int} (h : 0 < x) : lnF qs x = minOf (fun q => q.at x) qs := by unfold lnF; rw [if_neg (by omega)]
theorem lnF_zero {qs : List Pc} : lnF qs 0 = 0 := by unfold lnF; rw [if_pos rfl]
/-- how many values are written, and the gain in twelve ticks -/
def lnN (qs : List Pc) : Int := 12 * (maxOf Pc.b qs + 2)
def lnG (qs : List Pc) : Int := minOf Pc.r qs
theorem lnN_b {qs : List Pc} (ne : qs ≠ []) (ok : ∀ q ∈ qs, q.Ok) : 24 ≤ lnN qs ∧ lnN qs ≤ 744 := by
  obtain ⟨⟨a, ha, e⟩, _⟩ := maxOf_is Pc.b ne
  have := (ok a ha).b0
  have := (ok a ha).b1
  unfold lnN
  omega
theorem lnG_b {qs : List Pc} (ne : qs ≠ []) (ok : ∀ q ∈ qs, q.Ok) : 0 ≤ lnG qs ∧ lnG qs ≤ 720 := by
  obtain ⟨⟨a, ha, e⟩, _⟩ := minOf_is Pc.r ne
  have := (ok a ha).r0
  unfold lnG
  omega
theorem ln_rep {qs : List Pc} (ne : qs ≠ []) (ok : ∀ q ∈ qs, q.Ok) : Rep (lnF qs) (lnN qs) 12 (lnG qs) := fun t ht => by
  have nb := lnN_b ne ok
  obtain ⟨⟨q0, h0, e0⟩, l0⟩ := minOf_is Pc.r ne
  obtain ⟨_, lb⟩ := maxOf_is Pc.b ne
  have hN : lnN qs = 12 * (maxOf Pc.b qs + 2) := rfl
  obtain ⟨s, rfl⟩ : ∃ s, t = s + 12 := ⟨t - 12, by omega⟩
  rw [show s + 12 - 12 = s by omega, lnF_pos (by omega), lnF_pos (by omega)]
  obtain ⟨⟨q1, h1, e1⟩, l1⟩ := minOf_is (fun q : Pc => q.at (s + 12)) ne
  obtain ⟨⟨q2, h2, e2⟩, l2⟩ := minOf_is (fun q : Pc => q.at s) ne
  show _ = _ + minOf Pc.r qs
  have r2 : q2.r = q0.r := by
    have a := l0 q2 h2
    rw [e0] at a
    by_cases z : q2.r = q0.r
    · exact z
    · exfalso
      have m := Int.mul_le_mul_of_nonneg_right (show q0.r + 1 ≤ q2.r by omega) (show 0 ≤ s by omega)
      rw [Int.add_mul, Int.one_mul] at m
      have c := l2 q0 h0
      rw [e2] at c
      have c : q2.at s ≤ q0.at s := c
      rw [(ok q2 h2).at_eq, (ok q0 h0).at_eq] at c
      have := (ok q2 h2).b0
      have := lb q0 h0
      omega
  have f1 := (ok q1 h1).far s
  have f2 := (ok q2 h2).far s
  have c1 := l1 q2 h2
  have c2 := l2 q1 h1
  have c3 := l0 q1 h1
  have c1 : minOf (fun q : Pc => q.at (s + 12)) qs ≤ q2.at (s + 12) := c1
  have c2 : minOf (fun q : Pc => q.at s) qs ≤ q1.at s := c2
  have e1 : minOf (fun q : Pc => q.at (s + 12)) qs = q1.at (s + 12) := e1
  have e2 : minOf (fun q : Pc => q.at s) qs = q2.at s := e2
  omega
theorem ln_up {qs : List Pc} (ne : qs ≠ []) (ok : ∀ q ∈ qs, q.Ok) (x : Int) (hx : 0 ≤ x) : lnF qs x ≤ lnF qs (x + 1) := by
  obtain ⟨⟨q1, h1, e1⟩, l1⟩ := minOf_is (fun q : Pc => q.at (x + 1)) ne
  rw [lnF_pos (show 0 < x + 1 by omega), e1]
  have u := (ok q1 h1).up x
  by_cases z : x = 0
  · subst z
    rw [lnF_zero]
    exact (ok q1 h1).nn (by omega)
  · rw [lnF_pos (by omega)]
    obtain ⟨_, l2⟩ := minOf_is (fun q : Pc => q.at x) ne
    exact Int.le_trans (l2 q1 h1) u
theorem ln_nn {qs : List Pc} (ne : qs ≠ []) (ok : ∀ q ∈ qs, q.Ok) (x : Int) (hx : 0 ≤ x) : 0 ≤ lnF qs x := by
  by_cases z : x = 0
  · subst z; rw [lnF_zero]; exact Int.le_refl _
  · rw [lnF_pos (by omega)]
    obtain ⟨⟨q1, h1, e1⟩, _⟩ := minOf_is (fun q : Pc => q.at x) ne
    rw [e1]
    exact (ok q1 h1).nn hx
theorem ln_hi {qs : List Pc} (ne : qs ≠ []) (ok : ∀ q ∈ qs, q.Ok) (x : Int) (hx : 0 ≤ x) : lnF qs x ≤ 60 + 60 * x := by
  by_cases z : x = 0
  · subst z; rw [lnF_zero]; decide
  · rw [lnF_pos (by omega)]
    obtain ⟨⟨q1, h1, e1⟩, _⟩ := minOf_is (fun q : Pc => q.at x) ne
    rw [e1]
    exact (ok q1 h1).hi hx
theorem Pc.Ok.sub {p q : Pc} (hp : p.Ok) (hq : q.Ok) (h : p.r ≤ q.r) {a b : Int} (ha : 0 ≤ a) (hb : 0 ≤ b) : p.at (a + b) ≤ p.at a + q.at b := by
  have m := Int.mul_le_mul_of_nonneg_right h hb
  have := hq.b0
  rw [hp.at_eq, hp.at_eq, hq.at_eq, Int.mul_add]
  omega
/-- the least of lines is good -/
theorem ln_good {qs : List Pc} (ne : qs ≠ []) (ok : ∀ q ∈ qs, q.Ok) {a b : Int} (ha : 0 ≤ a) (hb : 0 ≤ b) : lnF qs (a + b) ≤ lnF qs a + lnF qs b := by
  by_cases za : a = 0
  · subst za; rw [lnF_zero, Int.zero_add, Int.zero_add]; exact Int.le_refl _
  by_cases zb : b = 0
  · subst zb; rw [lnF_zero, Int.add_zero, Int.add_zero]; exact Int.le_refl _
  rw [lnF_pos (show 0 < a + b by omega), lnF_pos (show 0 < a by omega), lnF_pos (show 0 < b by omega)]
  obtain ⟨_, l⟩ := minOf_is (fun q : Pc => q.at (a + b)) ne
  obtain ⟨⟨p, hp, ep⟩, _⟩ := minOf_is (fun q : Pc => q.at a) ne
  obtain ⟨⟨q, hq, eq⟩, _⟩ := minOf_is (fun q : Pc => q.at b) ne
  rw [ep, eq]
  by_cases c : p.r ≤ q.r
  · exact Int.le_trans (l p hp) ((ok p hp).sub (ok q hq) c ha hb)
  · refine Int.le_trans (l q hq) ?_
    have := (ok q hq).sub (ok p hp) (show q.r ≤ p.r by omega) hb ha
    show q.at (a + b) ≤ p.at a + q.at b
    rw [Int.add_comm a b, Int.add_comm (p.at a)]
    exact this
/-- more pieces, less -/
theorem ln_le {qs : List Pc} {q : Pc} (h : q ∈ qs) (x : Int) : lnF qs x ≤ lnF [q] x := by
  by_cases z : x = 0
  · subst z; rw [lnF_zero, lnF_zero]; exact Int.le_refl _
  · unfold lnF
    rw [if_neg z, if_neg z]
    exact (minOf_is (fun q : Pc => q.at x) (fun e => by subst e; cases h)).2 q h
/-- the same pieces, the same -/
theorem minOf_same {α : Type} {f : α → Int} {l m : List α} (h : ∀ a, a ∈ l ↔ a ∈ m) : minOf f l = minOf f m := by
  by_cases z : l = []
  · subst z
    have : m = [] := by
      cases m with
      | nil => rfl
      | cons a m => exact absurd ((h a).mpr List.mem_cons_self) (by simp)
    subst this; rfl
  · have z2 : m ≠ [] := fun e => by
      subst e
      obtain ⟨⟨a, ha, _⟩, _⟩ := minOf_is f z
      exact absurd ((h a).mp ha) (by simp)
    obtain ⟨⟨a, ha, ea⟩, la⟩ := minOf_is f z
    obtain ⟨⟨b, hb, eb⟩, lb⟩ := minOf_is f z2
    have := la b ((h b).mpr hb)
    have := lb a ((h a).mp ha)
    omega
theorem ln_same {qs rs : List Pc} (h : ∀ q, q ∈ qs ↔ q ∈ rs) (x : Int) : lnF qs x = lnF rs x := by
  unfold lnF
  rw [minOf_same h]
/-! forms of functions that repeat from somewhere on, with a period that divides twelve -/
def per6 (p : Int) : Prop := p = 1 ∨ p = 2 ∨ p = 3 ∨ p = 4 ∨ p = 6 ∨ p = 12
def cyc6 (i : Nat) : Int := ([1, 2, 3, 4, 6, 12] : List Int).getD i 0
theorem cyc6_lt {i k : Nat} (h : i < k) (hk : k < 6) : cyc6 i < cyc6 k := by
  have : ∀ k, k < 6 → ∀ i, i < k → cyc6 i < cyc6 k := by decide +kernel
  exact this k hk i h
theorem cyc6_b {i : Nat} (h : i < 6) : 0 < cyc6 i ∧ cyc6 i ≤ 12 := by
  have : ∀ i, i < 6 → 0 < cyc6 i ∧ cyc6 i ≤ 12 := by decide +kernel
  exact this i h
theorem cyc6_per {d : Int} (h : per6 d) : ∃ k, k < 6 ∧ cyc6 k = d := by
  rcases h with h | h | h | h | h | h <;> subst h
  · exact ⟨0, by decide, rfl⟩
  · exact ⟨1, by decide, rfl⟩
  · exact ⟨2, by decide, rfl⟩
  · exact ⟨3, by decide, rfl⟩
  · exact ⟨4, by decide, rfl⟩
  · exact ⟨5, by decide, rfl⟩
theorem per6_dvd {d p : Int} (d0 : 0 < d) (hp : per6 p) (h : d ∣ p) : per6 d := by
  have h12 : d ∣ 12 := Int.dvd_trans h (by rcases hp with h | h | h | h | h | h <;> subst h <;> decide)
  have le := Int.le_of_dvd (by decide) h12
  obtain ⟨e, he⟩ := h12
  have : d = 1 ∨ d = 2 ∨ d = 3 ∨ d = 4 ∨ d = 5 ∨ d = 6 ∨ d = 7 ∨ d = 8 ∨ d = 9 ∨ d = 10 ∨ d = 11 ∨ d = 12 := by omega
  unfold per6
  rcases this with h | h | h | h | h | h | h | h | h | h | h | h <;> subst h <;> omega
/-- what the form's period is -/
theorem fm_least {xs : List Int} {p g : Int} (hp : 0 < p) (hpn : p ≤ xs.length) : (formP xs p g).1 ∣ p ∧ ∀ c : Int, 0 < c → c < (formP xs p g).1 → ∀ N s : Int, ¬ Rep (cvAt xs p g) N c s := by
  have R : Rep (cvAt xs p g) xs.length p g := Rep.cvAt hp hpn
  have Pp : Per (cvAt xs p g) p.toNat := ⟨by omega, _, _, by rw [Int.toNat_of_nonneg (by omega)]; exact R⟩
  obtain ⟨d, D, no⟩ := least_nat ⟨p.toNat, Pp⟩
  have no' : ∀ c, Per (cvAt xs p g) c → d ≤ c := fun c hc => by
    by_cases z : d ≤ c
    · exact z
    · exact absurd hc (no c (by omega))
  have dvp : (d : Int) ∣ p := by
    have := Int.natCast_dvd_natCast.mpr (per_dvd' D no' Pp)
    rwa [Int.toNat_of_nonneg (by omega)] at this
  have e1 : (formP xs p g).1 = d := leastFrom_is R hp D no' dvp _ 1 (by omega) (by omega) (by have := D.1; omega)
  rw [e1]
  refine ⟨dvp, fun c c0 cd N s hc => ?_⟩
  have := no' c.toNat ⟨by omega, N, s, by rw [Int.toNat_of_nonneg (by omega)]; exact hc⟩
  omega
theorem fm_rep {xs : List Int} {p g : Int} (hp : 0 < p) (hpn : p ≤ xs.length) : Rep (cvAt xs p g) (formV xs p g).length (formP xs p g).1 (formP xs p g).2 := by
  obtain ⟨a, b, R⟩ := leastP_spec (Rep.cvAt (g := g) hp hpn) hp
  have a : 0 < (formP xs p g).1 := a
  have b : (formP xs p g).1 ≤ p := b
  have R : Rep (cvAt xs p g) xs.length (formP xs p g).1 (formP xs p g).2 := R
  obtain ⟨c1, c2, c3⟩ := shr_spec a xs.length (by omega) R
  unfold formV
  rw [vals_length]
  exact c3
/-- the last length that does not follow from the one a period before, of c + 1, .., c + j; c if there is none -/
def lastOdd (f : Int → Int) (c s : Int) : Nat → Int
  | 0 => c
  | j + 1 => if f (c + 1 + j) = f (c + 1 + j - c) + s then lastOdd f c s j else c + 1 + j
theorem lastOdd_is (f : Int → Int) (c s : Int) : ∀ j : Nat, c ≤ lastOdd f c s j ∧ lastOdd f c s j ≤ c + j ∧ (∀ t, lastOdd f c s j < t → t ≤ c + j → f t = f (t - c) + s) ∧ (c < lastOdd f c s j → f (lastOdd f c s j) ≠ f (lastOdd f c s j - c) + s)
  | 0 => ⟨Int.le_refl _, by show c ≤ c + 0; omega, fun t h1 h2 => by have h1 : c < t := h1; omega, fun h => by have h : c < c := h; omega⟩
  | j + 1 => by
    obtain ⟨a, b, d, e⟩ := lastOdd_is f c s j
    by_cases z : f (c + 1 + j) = f (c + 1 + j - c) + s
    · have q : lastOdd f c s (j + 1) = lastOdd f c s j := if_pos z
      rw [q]
      refine ⟨a, by omega, fun t h1 h2 => ?_, e⟩
      by_cases w : t = c + 1 + j
      · rw [w]; exact z
      · exact d t h1 (by omega)
    · have q : lastOdd f c s (j + 1) = c + 1 + j := if_neg z
      rw [q]
      exact ⟨by omega, by omega, fun t h1 h2 => by omega, fun _ => z⟩
/-- with the form's period: the number of its values -/
theorem lastOdd_form {xs : List Int} {p g : Int} {j : Nat} (hp : 0 < p) (hpn : p ≤ xs.length) (hj : (xs.length : Int) ≤ (formP xs p g).1 + j) : lastOdd (cvAt xs p g) (formP xs p g).1 (formP xs p g).2 j = formM xs p g := by
  obtain ⟨f1, f2, f3, f4, f5⟩ := form_spec (vs := xs) (g := g) hp hpn
  have R := fm_rep (g := g) hp hpn
  have ml : (formV xs p g).length = formM xs p g := by unfold formV; rw [vals_length]
  have mn := shr_min (f := cvAt xs p g) (d := (formP xs p g).1) (s := (formP xs p g).2) xs.length
  have eM : shr (cvAt xs p g) (formP xs p g).1 (formP xs p g).2 xs.length = formM xs p g := rfl
  rw [eM] at mn
  rw [ml] at R f3 f4
  obtain ⟨a, b, d, e⟩ := lastOdd_is (cvAt xs p g) (formP xs p g).1 (formP xs p g).2 j
  generalize lastOdd (cvAt xs p g) (formP xs p g).1 (formP xs p g).2 j = L at *
  generalize formM xs p g = m at *
  by_cases c1 : (m : Int) < L
  · exact absurd (R L c1) (e (by omega))
  · by_cases c2 : L < m
    · rcases mn with h | h | h
      · omega
      · omega
      · exact absurd (d m c2 (by omega)) h
    · omega
/-- with a lesser one it lies far out -/
theorem lastOdd_far {xs : List Int} {p g c s : Int} {j : Nat} (hp : 0 < p) (hpn : p ≤ xs.length) (c0 : 0 < c) (cd : c < (formP xs p g).1) (hj : (xs.length : Int) + p ≤ c + j) : (xs.length : Int) < lastOdd (cvAt xs p g) c s j := by
  obtain ⟨a, b, d, e⟩ := lastOdd_is (cvAt xs p g) c s j
  obtain ⟨f1, f2, f3, f4, f5⟩ := form_spec (vs := xs) (g := g) hp hpn
  by_cases z : (xs.length : Int) < lastOdd (cvAt xs p g) c s j
  · exact z
  · exfalso
    have S : stepsEq (cvAt xs p g) xs.length p c = true := steps_of (s := s) fun t h1 h2 => d t (by omega) (by omega)
    exact (fm_least (g := g) hp hpn).2 c c0 cd _ _ ((Rep.cvAt (g := g) hp hpn).of_steps c0 (by omega) S)
/-- written by its form a curve has this form -/
theorem fm_idem {xs : List Int} {p g : Int} (hp : 0 < p) (hpn : p ≤ xs.length) : formV (formV xs p g) (formP xs p g).1 (formP xs p g).2 = formV xs p g ∧ formP (formV xs p g) (formP xs p g).1 (formP xs p g).2 = formP xs p g := by
  obtain ⟨f1, f2, f3, f4, f5⟩ := form_spec (vs := xs) (g := g) hp hpn
  have u := form_unique (g := (formP xs p g).2) (e := g) f1 f3 hp hpn f5
  first | exact u | exact ⟨u.2, u.1⟩ | exact ⟨u.1, u.2⟩
/-- what is known of such a function's form -/
theorem fm_vals {F : Int → Int} {n : Nat} {G : Int} (R : Rep F n 12 G) (hn : 12 ≤ n) (F0 : F 0 = 0) : ∀ t : Int, 0 ≤ t → cvAt (vals F n) 12 G t = F t :=
  fun t ht => cvAt_vals (by decide) (by omega) F0 R t ht
theorem form_get {xs : List Int} {p g : Int} {i : Nat} (h : i < (formV xs p g).length) : (formV xs p g).getD i 0 = cvAt xs p g ((i : Int) + 1) := by
  unfold formV at h ⊢
  rw [vals_length] at h
  exact vals_getD h
/-- at most: what the package looks at is enough -/
theorem am_iff {f h : Int → Int} {n1 n2 : Nat} {p1 g1 p2 g2 : Int} (R : Rep f n1 p1 g1) (S : Rep h n2 p2 g2) (a0 : 0 < p1) (a1 : p1 ≤ n1) (b0 : 0 < p2) (b1 : p2 ≤ n2) :
    amM f h n1 n2 p1 g1 p2 g2 = true ↔ ∀ t : Int, 1 ≤ t → f t ≤ h t := by
  have d1 : p1 ∣ ((Nat.lcm p1.toNat p2.toNat : Nat) : Int) := by
    have := Int.natCast_dvd_natCast.mpr (Nat.dvd_lcm_left p1.toNat p2.toNat)
    rwa [Int.toNat_of_nonneg (by omega)] at this
  have d2 : p2 ∣ ((Nat.lcm p1.toNat p2.toNat : Nat) : Int) := by
    have := Int.natCast_dvd_natCast.mpr (Nat.dvd_lcm_right p1.toNat p2.toNat)
    rwa [Int.toNat_of_nonneg (by omega)] at this
  have l0 : 0 < Nat.lcm p1.toNat p2.toNat := Nat.lcm_pos (by omega) (by omega)
  unfold amM
  have eN : ((amN n1 n2 p1 p2 : Nat) : Int) = max ((n1 : Int) - p1) ((n2 : Int) - p2) + (Nat.lcm p1.toNat p2.toNat : Nat) := by unfold amN; omega
  have R2 : Rep f (amN n1 n2 p1 p2 : Nat) (Nat.lcm p1.toNat p2.toNat : Nat) (g1 * ((Nat.lcm p1.toNat p2.toNat : Nat) / p1)) := R.mul a0 d1 (by omega) (by omega)
  have S2 : Rep h (amN n1 n2 p1 p2 : Nat) (Nat.lcm p1.toNat p2.toNat : Nat) (g2 * ((Nat.lcm p1.toNat p2.toNat : Nat) / p2)) := S.mul b0 d2 (by omega) (by omega)
  have N1 : 1 ≤ amN n1 n2 p1 p2 := by omega
  have NL : Nat.lcm p1.toNat p2.toNat ≤ amN n1 n2 p1 p2 := by omega
  generalize g1 * ((Nat.lcm p1.toNat p2.toNat : Nat) / p1) = G1 at *
  generalize g2 * ((Nat.lcm p1.toNat p2.toNat : Nat) / p2) = G2 at *
  generalize amN n1 n2 p1 p2 = N at *
  generalize Nat.lcm p1.toNat p2.toNat = L at *
  by_cases c : G2 < G1
  · rw [if_pos c]
    refine ⟨fun z => (nomatch z), fun z => ?_⟩
    exfalso
    obtain ⟨K, hK⟩ : ∃ K : Nat, h N - f N < K := ⟨(h N - f N).toNat + 1, by omega⟩
    have e1 := R2.times (by omega) K ((N : Int) + K * L) (by omega)
    have e2 := S2.times (by omega) K ((N : Int) + K * L) (by omega)
    rw [show (N : Int) + K * L - K * L = N by omega] at e1 e2
    have nn : (0 : Int) ≤ (K : Int) * L := Int.mul_nonneg (by omega) (by omega)
    have q := z ((N : Int) + K * L) (by omega)
    have m := Int.mul_le_mul_of_nonneg_left (show G2 + 1 ≤ G1 by omega) (show (0 : Int) ≤ K by omega)
    rw [Int.mul_add, Int.mul_one] at m
    omega
  · rw [if_neg c, all_iff]
    refine ⟨fun z => ?_, fun z t h1 _ => z t h1⟩
    have key : ∀ m : Nat, ∀ t : Int, 1 ≤ t → t ≤ m → f t ≤ h t := by
      intro m
      induction m with
      | zero => intro t h1 h2; omega
      | succ m ih =>
        intro t h1 h2
        by_cases w : t ≤ N
        · exact z t h1 w
        · rw [R2 t (by omega), S2 t (by omega)]
          have := ih (t - L) (by omega) (by omega)
          omega
    intro t ht
    exact key t.toNat t ht (by omega)
end VM

/-! repr of a list of own objects: their own __repr__ runs under the list's guard. -/
namespace VL
open PySem PySem.Spec PyProof.Rows L2
/-- the guards are of S alone -/
def Gd (S : Addr) (A : Around) : Prop := ∃ g, A.guards = some g ∧ ∀ b, b ≠ S → Clear g b
/-- a def's promise, asked where the guards are of one list alone -/
structure FnC (P : Program) (w : World) (K : PySem.W.Frag) (mg : Str → Option Value) (base : Heap) (CX : CXT)
    (k : Nat) (f : Addr) (fd : FuncData) (ps : List Str) (sp : Addr → Sp) : Prop where
  arity : ∀ S as H Q E, sp S as H Q E → as.length = ps.length
  go : ∀ (S : Addr) (A : Around) (outer : List Env) (s : Shared) (H : Hp) (args : Args) (us : List Value) (as : List V) (Q : VK) (E : XK),
    Gd S A → Room k A → Env0 P w K mg base A outer s H → BindsTo s fd args (ps.zip us) → Vals as us → sp S as H Q E →
      codeAny (model P w) A (.call (.ref f) args) (CR CX outer P w H s Q E) s
section
variable {P : Program} {w : World} {K : PySem.W.Frag} {mg : Str → Option Value} {base : Heap} {CX : CXT}
theorem okC {x qual : Str} {st : Stmt} {f : Addr} {fd : FuncData} {N ps : List Str} {k : Nat} {sp : Addr → Sp}
    (F : Fun K x qual st f fd) (Sc : FnScope N ps (defScope st)) (len : ∀ S as H Q E, sp S as H Q E → as.length = ps.length)
    (body : ∀ (S : Addr) (cdv : Value) (A : Around) (outer : List Env) (s : Shared) (H : Hp) (as : List V) (Q : VK) (E : XK),
      Gd S (A.deeper (envOfC qual (defScope st) s.heap.objs.size f cdv)) →
      Room k (A.deeper (envOfC qual (defScope st) s.heap.objs.size f cdv)) → sp S as H Q E →
      ∃ t, PSs (cxOf CX P w K mg base N qual (defScope st) f cdv A outer s H E) (defBody st) t ∧
        t { nx := fun _ H' => Q .non H', rt := Q } (start N as) H) :
    FnC P w K mg base CX (k + 1) f fd ps sp := by
  obtain ⟨oc, od, kV, doc, pm, an, cdv, ct, osl, rfl, lk, hcd⟩ := F.ex
  refine ⟨len, fun S A outer s H args us as Q E hA hr e0 hb r hsp => ?_⟩
  have hl := len _ _ _ _ _ hsp
  have KX : K.In s.heap := e0.mod.kin.keeps fun b o e => (e0.bs b o e).1
  have lim : s.heap.NoLimit := e0.mod.nolimit.keeps fun b o e => (e0.bs b o e).1
  have kinds : ∀ y ∈ ps.zip us, (defScope st).names.lookup y.1 = some .local ∨
      ((defScope st).names.lookup y.1 = some .cell ∧ ((cellsFrom (s.heap.objs.size + 1) (defScope st).names []).lookup y.1).isSome = true) := by
    rintro ⟨n, v⟩ hy
    rcases Sc.par n (List.of_mem_zip hy).1 with q | q
    · exact .inl q
    · exact .inr ⟨q, PySem.W.cellsFrom_some _ _ _ (.inl q)⟩
  refine codeAny_call_function hr.depth (KX _ _ lk) rfl Sc.co Sc.gen rfl (PySem.W.codeRec_of KX hcd) (hb _ _ _ _ ?_)
  refine wpAny_newFunctionEnv_cells Sc.kind kinds fun env he s1 z => ?_
  subst he
  refine ⟨lim.keeps z.toInCall.keep, codeAny_func ?_⟩
  obtain ⟨t, ht, hq⟩ := body S cdv A outer s H as Q E hA (hr.deeper _) hsp
  have I0 : Inv (cxOf CX P w K mg base N qual (defScope st) f cdv A outer s H E) [] (start N as) H s1 :=
    inv_start Sc hr.hd e0 hl r z
  refine wpAny_mono (ht.run [] s1 (start N as) H _ I0 hq) ?_ fun e s' hs => hs
  intro fl s' hs
  have done : ∀ (σ' : L2.St) (H' : Hp) (v : V) (u : Value), Inv (cxOf CX P w K mg base N qual (defScope st) f cdv A outer s H E) [] σ' H' s' →
      RelV v u → Q v H' → CE outer P w H s Q u s' := fun σ' H' v u J rv q => ⟨v, H', J.os, J.bare, J.base, J.hok, rv, q⟩
  cases fl with
  | ret u =>
    obtain ⟨v, σ', H', J, rv, q⟩ := hs
    exact done σ' H' v u J rv q
  | next =>
    obtain ⟨σ', H', J, q⟩ := hs
    exact done σ' H' V.non Value.none J rfl q
  | brk => exact hs.elim fun _ h => h.elim fun _ h => False.elim h.2
  | cont => exact hs.elim fun _ h => h.elim fun _ h => False.elim h.2
end
section
variable {P : Program} {w : World} {K : PySem.W.Frag} {mg : Str → Option Value} {base : Heap}
theorem okC0 {x qual : Str} {st : Stmt} {f : Addr} {fd : FuncData} {N ps : List Str} {k : Nat} {sp : Addr → Sp}
    (F : Fun K x qual st f fd) (Sc : FnScope N ps (defScope st)) (len : ∀ S as H Q E, sp S as H Q E → as.length = ps.length)
    (body : ∀ (S : Addr) (cdv : Value) (A : Around) (outer : List Env) (s : Shared) (H : Hp) (as : List V) (Q : VK) (E : XK),
      Gd S (A.deeper (envOfC qual (defScope st) s.heap.objs.size f cdv)) →
      Room k (A.deeper (envOfC qual (defScope st) s.heap.objs.size f cdv)) → sp S as H Q E →
      ∃ t, PSs (cxOf CX0 P w K mg base N qual (defScope st) f cdv A outer s H E).nox (defBody st) t ∧
        t { nx := fun _ H' => Q .non H', rt := Q } (start N as) H) :
    FnC P w K mg base CX0 (k + 1) f fd ps sp :=
  okC F Sc len fun S cdv A outer s H as Q E hA hr h =>
    let ⟨t, h1, h2⟩ := body S cdv A outer s H as Q E hA hr h
    ⟨t, h1.nox, h2⟩
end
theorem ints_all {prog : Program} {w : World} {h₀ : Heap} {d : Nat} : ∀ (us : List Int) (its : List Value), Vals (us.map V.int) its → PyData.showableAll (us.map PyData.int) = true → ReprAllK prog w [] h₀ d its (PyData.shownAll (us.map PyData.int))
  | [], its, rv, _ => by
    cases rv
    simp only [List.map_nil, PyData.shownAll]
    exact .nil
  | u :: us, its, rv, sh => by
    cases rv with
    | cons r1 r =>
      obtain ⟨t, rfl⟩ := r1
      have sh' : (PyData.int u).showable = true ∧ PyData.showableAll (us.map PyData.int) = true := by simpa [PyData.showableAll] using sh
      have hl : u.natAbs.log2 < 1920 := by simpa [PyData.showable] using sh'.1
      simp only [List.map_cons, PyData.shownAll, PyData.shown]
      exact .cons (ReprK.of_is (ReprIs.int t hl) _ _ _) (ints_all us _ r sh'.2)
section
variable {X : Cx}
/-- {x} of a list of ints, in an f-string, under the guard of another list -/
def tFmtC (K : PySem.W.Frag) (S : Addr) (te : TE) : TE := fun σ H Q => te σ H fun x H1 => ∃ (a : Addr) (u : Int) (us : List Int), x = .ref a ∧ a ≠ S ∧ H1 a = some (.lst ((u :: us).map V.int)) ∧ (PyData.list ((u :: us).map PyData.int)).showable = true ∧ (PyData.list ((u :: us).map PyData.int)).shown.length ≤ sizeLine ∧ Q (.str (PyData.list ((u :: us).map PyData.int)).shown) H1
theorem pe_fmtC {S : Addr} {e : Expr} {te : TE} {pos : Pos} (hg : Gd S X.A) (hu : X.A.units + 64 < cLine) (he : PE X e te) : PE X (.FormattedValue e (-1) none pos) (tFmtC X.K S te) := by
  refine ⟨fun pins s σ H Q I h => wpAny_FormattedValue_plain (thn (he.run pins s σ H _ I h) ?_)⟩
  rintro v s1 ⟨x, H1, I1, r1, a, u, us, rfl, na, ha, sh, sz, q⟩
  obtain rfl : v = Value.ref a := r1
  obtain ⟨g, hgg, hcl⟩ := hg
  obtain ⟨zl, its, n, rv, ll, hget⟩ := I1.lstM ha
  have shA : PyData.showableAll ((u :: us).map PyData.int) = true := by simpa [PyData.showable] using sh
  have all := ints_all (prog := X.prog) (w := X.w) (h₀ := s1.heap) (d := 0) (u :: us) its rv shA
  have hs : (PyData.list ((u :: us).map PyData.int)).shown = listText (PyData.shownAll ((u :: us).map PyData.int)) := by simp only [PyData.shown]
  rw [hs] at sz q
  cases its with
  | nil => cases rv
  | cons y l =>
    refine wpAny_formatField_slot (fun _ _ => nofun) (by omega) ⟨_, hget, rfl⟩ F.slot_list_format F.slot_list_str F.slot_list_repr.toG ?_
    refine call_list_reprK (as := []) (h₀ := s1.heap) (d := 0) hget rfl rfl (by simp) (by simpa using all.length_eq) (fun i z e => all.item i z (by simpa using e)) (A := X.A.in1.in1) (g := g) hgg (fun b hb => ?_) (by show X.A.units + 1 + 1 + (0 + 1) < cLine; omega) (fun _ _ e => e) (fun h' w tk k => ⟨_, _, rfl, .str _, H1, I1.kept (t' := tk) k, ⟨_, rfl⟩, q⟩) sz
    rw [List.mem_singleton.mp hb]
    exact hcl a na

theorem ifBoundBy_K {M : Model} {K : PySem.W.Frag} {A : Around} {E : Value → Shared → Prop} {s : Shared} {x C f : Addr} {od : Option Obj} {ox : Obj} {name : Str} {last : Value → List Value → Sem Value} {Q : Option Value → Shared → Prop} (X : K.In s.heap) (I : PySem.W.InstAt s.heap x ox C od) (hs : PySem.W.findIn K (.ref C) name = some (some (.ref f))) (hf : PySem.W.isFn K (.ref f) = true)
    (h : wpAny M A (last (.ref f) [.ref x]) (fun v => Q (some v)) E s) : wpAny M A (callSpecialIfBoundBy? last (.ref x) name) Q E s := by
  simp only [callSpecialIfBoundBy?, bindSpecialIfBound?]
  refine wpAny_holding (wpAny_bind (wpAny_bind (wpAny_bind (I.type.here ((PySem.W.looks_findIn X hs).here ?_)))))
  refine wpAny_bind (wpAny_askSetting (wpAny_ite ?_))
  have fin : wpAny M A (last (.ref f) [.ref x] >>= fun v => pure (some v)) Q E s := wpAny_bind (wpAny_mono h (fun v s' h' => wpAny_pure h') fun _ _ h' => h')
  split
  · exact wpAny_bind ((PySem.W.bind_fn X _ (beq_iff_eq.mp hf)).here (wpAny_pure (by exact fin)))
  · exact wpAny_tryCatch (wpAny_bind ((PySem.W.bind_fn X _ (beq_iff_eq.mp hf)).here (wpAny_pure (by exact fin))))
variable {CX : CXT} {k : Nat} {f C : Addr} {fd : FuncData} {ps : List Str} {sp : Addr → Sp} {E : XK}
theorem own_under (F : FnC X.prog X.w X.K X.mg X.base CX k f fd ps sp) (o : Meth X.K C "__repr__" f) (hb : Binds X.K fd ps []) (hx : Passes CX X E)
    {S : Addr} {A' : Around} (fr : A'.frames = X.A.frames) (gd : Gd S A') (hr : Room k A') {pins : List (Addr × Obj)} {σ : L2.St} {H : Hp} {s : Shared} (I : Inv X pins σ H s) {a dx : Addr} {fs : List (Str × V)} (ea : H a = some (.ins C dx fs)) {R : Str → Hp → Prop}
    (h : sp S [.ref a] H (fun v H' => ∃ t, v = .str t ∧ R t H') E) {b : Nat} (hb2 : b ≤ sizeLine) :
    wpAny (model X.prog X.w) A' (pyReprUnder b (.ref a)) (fun t s' => ∃ H', Inv X pins σ H' s' ∧ R t H') X.xe s := by
  refine wpAny_pyReprUnder_ref hb2 ?_
  unfold pyReprObjUnder pyReprObjBy
  refine wpAny_bind (wpAny_cRoomFor hr.units0 ?_)
  obtain ⟨mA, J, _⟩ := ins_get I.hok ea
  obtain ⟨od, J, _⟩ := J.look
  have KX := I.kIn
  refine wpAny_bind (wpAny_bind (J.type.here ((PySem.W.looks_findIn KX o.at_).here ?_)))
  show wpAny _ _ (if (some (Value.ref f)).isNone = true then _ else _) _ _ _
  rw [if_neg (by simp)]
  refine wpAny_bind (ifBoundBy_K KX J o.at_ o.fn ?_)
  have len := F.arity _ _ _ _ _ h
  have bind := hb s [.ref a] I.kIn (by simpa using len)
  rw [List.append_nil] at bind
  have e0 := I.env0
  refine wpAny_call (codeAny_mono (F.go S A' X.stack s H ⟨[.ref a], []⟩ [.ref a] [.ref a] _ E gd hr ⟨fr.trans e0.frames, e0.mod, e0.bs, e0.bsz, e0.funs, e0.frf, e0.hok, e0.bare⟩ bind (.cons rfl .nil) h) ?_)
  intro res s' hq
  match res, hq with
  | .error e, hq => exact hx pins σ H s e s' I hq
  | .ok .next, hq => exact False.elim hq
  | .ok .brk, hq => exact False.elim hq
  | .ok .cont, hq => exact False.elim hq
  | .ok (.ret w), hq =>
    obtain ⟨z, H', J', rz, t, rfl, q⟩ := I.after hq
    obtain ⟨u, rfl⟩ := rz
    exact wpAny_bind (wpAny_isInstance (typeIs_str _ _ _) isSubtype_str_str (wpAny_pure ⟨t, u, rfl, H', J', q⟩))

theorem vals_ref_eq : ∀ {xs : List Addr} {its : List Value}, Vals (xs.map V.ref) its → its = xs.map Value.ref
  | [], its, r => by cases r; rfl
  | x :: xs, its, r => by
    cases r with
    | cons r1 r => cases r1; rw [vals_ref_eq r]; rfl
theorem vals_str_eq : ∀ {ts : List Str} {its : List Value}, Vals (ts.map V.str) its → ∃ done : List (Str × Tok), its = strValues done ∧ done.map (·.1) = ts
  | [], its, r => by cases r; exact ⟨[], rfl, rfl⟩
  | t :: ts, its, r => by
    cases r with
    | cons r1 r =>
      obtain ⟨u, rfl⟩ := r1
      obtain ⟨done, e, m⟩ := vals_str_eq r
      exact ⟨(t, u) :: done, by rw [e]; rfl, by rw [List.map_cons, m]⟩
theorem loop_depth {A : Around} {args : Args} : (A.under (.builtin "list.__repr__.loop" args)).depth = A.depth + 1 := by
  first | rfl | simp [Around.under, Code.weight, Code.isCreation, Code.isGuard, Code.isCaller, Code.frames, Code.isFrame, guardIds]
/-- what is shown of x -/
def Shows (C : Addr) (sp : Addr → Sp) (E : XK) (a : Addr) (H0 : Hp) (x : Addr) (t : Str) : Prop :=
  ∃ dx fs, H0 x = some (.ins C dx fs) ∧ ∀ H' : Hp, (∀ b o, H0 b = some o → H' b = some o) → sp a [.ref x] H' (fun v H'' => ∃ u, v = .str u ∧ (u = t ∧ H'' = H')) E
theorem loop_own (F : FnC X.prog X.w X.K X.mg X.base CX k f fd ps sp) (o : Meth X.K C "__repr__" f) (hb : Binds X.K fd ps []) (hx : Passes CX X E)
    {A0 : Around} (fr : A0.frames = X.A.frames) (hg : A0.guards = some []) (hr : Room (k + 1) A0) {pins : List (Addr × Obj)} {σ : L2.St} {a P : Addr} {R : Result → Shared → Prop} (hE : ∀ e s', X.xe e s' → R (.error e) s')
    {H0 : Hp} {xs : List Addr} {ts : List Str} (len : ts.length = xs.length) (all : ∀ (i : Nat) (x : Addr) (t : Str), xs[i]? = some x → ts[i]? = some t → Shows C sp E a H0 x t)
    (ha0 : H0 a = some (.lst (xs.map V.ref))) (nP : H0 P = none) (hsz : (listText ts).length ≤ sizeLine)
    (hR : ∀ s' H' u, Inv X pins σ H' s' → (∀ b o, H0 b = some o → H' b = some o) → R (.ok (.ret (.str (listText ts) u))) s') :
    ∀ (n i : Nat) (H : Hp) (s : Shared), xs.length - i = n → i ≤ xs.length → Inv X pins σ H s → (∀ b o, H0 b = some o → H b = some o) → H P = some (.lst ((ts.take i).map V.str)) →
      codeAny (model X.prog X.w) A0 (.builtin "list.__repr__.loop" ⟨[.ref a, rawInt i, .ref P, rawInt ((piled (ts.take i) : Nat) : Int)], []⟩) R s := by
  have hp3 := piled_le_listText ts
  have hL := textFrom_len ts 0 "["
  have hX : (listText ts).length = (textFrom 0 "[" ts).length + 1 := by
    show (textFrom 0 "[" ts ++ "]").length = _
    rw [strLen_append]; rfl
  have hsz2 : ∀ t ∈ ts, t.length ≤ sizeLine := fun t ht => by
    have h2 := hL.2.1 t ht
    omega
  intro n
  induction n with
  | zero =>
    intro i H s hn hi I k0 hP
    have hin : i = xs.length := by omega
    obtain ⟨_, its, na, rv, ll, hget⟩ := I.lstM (k0 _ _ ha0)
    obtain rfl := vals_ref_eq rv
    obtain ⟨_, its2, nb, rv2, ll2, hget2⟩ := I.lstM hP
    obtain ⟨done, rfl, hdone⟩ := vals_str_eq rv2
    refine codeAny_builtin PySem.F.entry_list_repr_loop ?_
    show wpAny _ _ (Builtin.«list.__repr__.loop» ⟨[.ref a, .int i 0, .ref P, .int ((piled (ts.take i) : Nat) : Int) 0], []⟩) _ _ s
    rw [repr_loop_tree]
    refine wpAny_bind (wpAny_listItems hget rfl ?_)
    have hnone : (xs.map Value.ref).toArray[(i : Int).toNat]? = none := by simp [hin]
    simp only [hnone]
    unfold reprEnd
    refine wpAny_bind (wpAny_listItems hget2 rfl ?_)
    have et : (strValues done).toArray.toList = strValues done := by simp
    rw [et, repr_fold]
    refine wpAny_bind (wpAny_pure ?_)
    have hall : done.map (·.1) = ts := by rw [hdone, hin, ← len, List.take_length]
    rw [hall]
    refine wpAny_bind (wpAny_mkStr (wpAny_pure ?_) hsz)
    exact hR _ H _ (I.tok _) k0
  | succ n ih =>
    intro i H s hn hi I k0 hP
    have hlt : i < xs.length := by omega
    obtain ⟨_, its, na, rv, ll, hget⟩ := I.lstM (k0 _ _ ha0)
    obtain rfl := vals_ref_eq rv
    have ex : xs[i]? = some xs[i] := List.getElem?_eq_getElem hlt
    have et : ts[i]? = some ts[i] := List.getElem?_eq_getElem (by omega)
    obtain ⟨dx, fs, hx0, hsp⟩ := all i _ _ ex et
    generalize xs[i] = x at *
    generalize ts[i] = t at *
    have hp1 := piled_take_succ et
    have hp2 := piled_take_le ts (i + 1)
    refine codeAny_builtin PySem.F.entry_list_repr_loop ?_
    show wpAny _ _ (Builtin.«list.__repr__.loop» ⟨[.ref a, .int i 0, .ref P, .int ((piled (ts.take i) : Nat) : Int) 0], []⟩) _ _ s
    rw [repr_loop_tree]
    refine wpAny_bind (wpAny_listItems hget rfl ?_)
    have hsome : (xs.map Value.ref).toArray[(i : Int).toNat]? = some (.ref x) := by simp [ex]
    simp only [hsome]
    rw [Int.toNat_natCast]
    refine wpAny_bind (wpAny_holding (wpAny_mono (own_under F o hb hx (S := a) ?_ ?_ ?_ I (k0 _ _ hx0) (hsp H k0) (b := piled (ts.take i) + 1) (by omega)) ?_ fun e s' h => hE e s' h))
    · first | exact fr | (simpa [Around.under, Code.envs, Code.isFrame, pushEnvs] using fr)
    · exact ⟨_, guards_under_guard (isGuard_list_loop _) hg, fun b nb => (Clear.nil b).cons (Ne.symm nb)⟩
    · refine ⟨hr.hd, ?_, ?_⟩
      · have := hr.dp
        rw [loop_depth]
        omega
      · have := hr.un
        rw [units_under_list_loop]
        omega
    rintro t2 s2 ⟨H2, I2, rfl, rfl⟩
    refine wpAny_bind (wpAny_mkStr ?_ (hsz2 t2 (List.mem_of_getElem? et)))
    refine wpAny_bind ?_
    show wpAny _ _ (updateSeq P _) _ _ _
    obtain ⟨zP, its2, nb, rv2, ll2, hget2⟩ := I2.lstM hP
    have lz : ts.length ≤ sizeLine := by
      have h1 := hL.1
      rw [if_neg (Nat.lt_irrefl 0)] at h1
      omega
    refine wpAny_updateSeq hget2 rfl (wpAny_pure ⟨PySem.F.quiet_list_repr_loop _, ?_⟩) (by rw [List.size_toArray, ← ll2, List.length_map, List.length_take]; omega)
    have e1 : ((i : Int) + 1) = ((i + 1 : Nat) : Int) := by omega
    have e2 : piled (ts.take i) + (t2.length + 2) = piled (ts.take (i + 1)) := by omega
    have et2 : (ts.take (i + 1)).map V.str = (ts.take i).map V.str ++ [V.str t2] := by rw [List.take_add_one, et, List.map_append]; rfl
    have J := (I2.tok (s2.toks + 1)).lset (t' := s2.toks + 1) (its' := its2 ++ [.str t2 s2.toks]) (f := fun r => r.push (.str t2 s2.toks)) hP hget2 (by simp) (ys := (ts.take (i + 1)).map V.str) (by rw [et2]; exact rv2.append (.cons ⟨_, rfl⟩ .nil)) (by rw [List.length_map, List.length_take]; omega)
    rw [e1, e2]
    refine ih (i + 1) _ _ (by omega) hlt J (fun b o e => ?_) upd_same
    rw [upd_ne (fun z => by rw [z, nP] at e; cases e)]
    exact k0 b o e

/-- repr of a list of own objects -/
def rReprLO (C : Addr) (sp : Addr → Sp) (E : XK) : List V → Hp → VK → Prop := fun vs H Q => ∃ (a : Addr) (xs : List Addr) (ts : List Str), vs = [.ref a] ∧ H a = some (.lst (xs.map V.ref)) ∧ xs ≠ [] ∧ ts.length = xs.length ∧
  (∀ (i : Nat) (x : Addr) (t : Str), xs[i]? = some x → ts[i]? = some t → Shows C sp E a H x t) ∧ (listText ts).length ≤ sizeLine ∧ ∀ H' : Hp, (∀ b o, H b = some o → H' b = some o) → Q (.str (listText ts)) H'
theorem call_reprLO (F : FnC X.prog X.w X.K X.mg X.base CX k f fd ps sp) (hA : X.A.guards = some []) (hr : Room (k + 3) X.A) (o : Meth X.K C "__repr__" f) (hb : Binds X.K fd ps []) (hx : Passes CX X E) :
    CallR X (.builtin "repr") (rReprLO C sp E) := by
  intro pins s σ H vs us Q I r h
  obtain ⟨a, xs, ts, rfl, ha, ne, len, all, hsz, q⟩ := h
  obtain ⟨u, rfl, ru⟩ := vals1 r
  obtain rfl : u = Value.ref a := ru
  obtain ⟨_, its, na, rv, ll, hget⟩ := I.lstM ha
  obtain rfl := vals_ref_eq rv
  cases xs with
  | nil => exact absurd rfl ne
  | cons x xs =>
    have hT : s.TypeIs (.ref a) "list" := ⟨_, hget, rfl⟩
    have un := hr.un
    refine call_repr_slot (by omega) hT PySem.F.slot_list_repr.toG ?_
    refine wpAny_call (codeAny_call_builtin PySem.F.slot_list_repr.plain PySem.F.entry_list_repr (PySem.F.slot_list_repr.check _ _ _ _ _ _ _ _ hT (PySem.F.args_list_repr_1 _) ?_))
    refine wpAny_list_repr_head (A := X.A.in1.in1) (g := []) hA (fun v rest kw hm => nomatch hm) hget rfl ?_
    refine wpAny_bind (m := newList []) (wpAny_newObj_type ?_)
    refine wpAny_pure ⟨PySem.F.quiet_list_repr_loop _, ?_⟩
    have J := I.lnew (t' := s.toks) (its := []) (ys := []) .nil (by show 0 ≤ sizeLine; decide)
    have hr1 : Room (k + 1) X.A.in1 := (hr.mono (show k + 2 ≤ k + 3 by omega)).in1
    refine loop_own (k := k) F o hb hx (A0 := X.A.in1) rfl hA hr1 (fun e s' h => h) len all ha (I.fresh) hsz (fun s' H' u J' k' => ⟨_, _, rfl, .str _, H', J', ⟨_, rfl⟩, q H' k'⟩) _ 0 _ _ rfl (Nat.zero_le _) J (fun b o e => ?_) ?_
    · rw [upd_ne (fun z => by rw [z, I.fresh] at e; cases e)]; exact e
    · exact upd_same
end
end VL

/-! What repr writes tells the ints that are written: lists of ints and ints in a row. -/
namespace IJ
open PySem PySem.Spec PyProof.Rows L2
def dig (i : Int) : List Nat := ((toString i : String) : Str).cps.toList
def D (c : Nat) : Prop := c = 45 ∨ (48 ≤ c ∧ c ≤ 57)
theorem dig_D {i : Int} : ∀ c ∈ dig i, D c := fun c hc => by
  by_cases h : c ≠ 45 ∧ (c < 48 ∨ 57 < c)
  · exact absurd hc (int_text_free' c h i)
  · unfold D; omega
theorem dig_nat (m : Nat) : dig (m : Int) = (Nat.toDigits 10 m).map Char.toNat := PySem.W.KIN.signs_num m
theorem nat_inj {m n : Nat} (h : (Nat.toDigits 10 m).map Char.toNat = (Nat.toDigits 10 n).map Char.toNat) : m = n := by
  have a := PySem.W.KIN.val_back m
  have b := PySem.W.KIN.val_back n
  rw [h] at a
  exact a.symm.trans b
theorem dig_neg (m : Nat) : dig (Int.negSucc m) = 45 :: (Nat.toDigits 10 (m + 1)).map Char.toNat := by
  unfold dig
  show (Str.ofString _).cps.toList = _
  rw [signs_ofString]
  show (String.append "-" (Nat.repr (m + 1))).toList.map Char.toNat = _
  rw [show String.append "-" (Nat.repr (m + 1)) = "-" ++ Nat.repr (m + 1) from rfl, String.toList_append, List.map_append, Nat.toList_repr]
  rfl
theorem digs_ne (m : Nat) : (Nat.toDigits 10 m).map Char.toNat ≠ [] := fun h => by
  have e := congrArg List.length h
  rw [List.length_map] at e
  have := Nat.length_toDigits_pos (b := 10) (n := m)
  rw [List.length_nil] at e
  omega
theorem digs_48 (m : Nat) : ∀ c ∈ (Nat.toDigits 10 m).map Char.toNat, c ≠ 45 := fun c hc => by
  obtain ⟨ch, hch, e⟩ := List.mem_map.mp hc
  have r := digit_range (Nat.isDigit_of_mem_toDigits (by decide) (by decide) hch)
  omega
theorem dig_ne (i : Int) : dig i ≠ [] := by
  cases i with
  | ofNat m => have := digs_ne m; rwa [← dig_nat] at this
  | negSucc m => rw [dig_neg]; exact fun h => nomatch h
theorem dig_inj {a b : Int} (h : dig a = dig b) : a = b := by
  cases a with
  | ofNat m =>
    cases b with
    | ofNat n =>
      have h : dig (m : Int) = dig (n : Int) := h
      rw [dig_nat, dig_nat] at h
      rw [nat_inj h]
    | negSucc n =>
      have h : dig (m : Int) = dig (Int.negSucc n) := h
      rw [dig_nat, dig_neg] at h
      exact absurd rfl (digs_48 m 45 (h ▸ List.mem_cons_self ..))
  | negSucc m =>
    cases b with
    | ofNat n =>
      have h : dig (Int.negSucc m) = dig (n : Int) := h
      rw [dig_nat, dig_neg] at h
      exact absurd rfl (digs_48 n 45 (h ▸ List.mem_cons_self ..))
    | negSucc n =>
      rw [dig_neg, dig_neg] at h
      injection h with _ h
      have := nat_inj h
      rw [show m = n by omega]
theorem cut : ∀ {a b : List Nat} {c d : Nat} {x y : List Nat}, (∀ z ∈ a, D z) → (∀ z ∈ b, D z) → ¬ D c → ¬ D d → a ++ c :: x = b ++ d :: y → a = b ∧ c = d ∧ x = y
  | [], [], c, d, x, y, _, _, _, _, e => by injection e with e1 e2; exact ⟨rfl, e1, e2⟩
  | [], w :: b, c, d, x, y, _, hb, hc, _, e => by
    injection e with e1 e2
    exact absurd (e1 ▸ hb w (List.mem_cons_self ..)) hc
  | w :: a, [], c, d, x, y, ha, _, _, hd, e => by
    injection e with e1 e2
    exact absurd (e1 ▸ ha w (List.mem_cons_self ..)) hd
  | w :: a, v :: b, c, d, x, y, ha, hb, hc, hd, e => by
    injection e with e1 e2
    obtain ⟨q1, q2, q3⟩ := cut (fun z hz => ha z (List.mem_cons_of_mem _ hz)) (fun z hz => hb z (List.mem_cons_of_mem _ hz)) hc hd e2
    exact ⟨by rw [e1, q1], q2, q3⟩
theorem cut_int {a b : Int} {c d : Nat} {x y : List Nat} (hc : ¬ D c) (hd : ¬ D d) (e : dig a ++ c :: x = dig b ++ d :: y) : a = b ∧ c = d ∧ x = y := by
  obtain ⟨h1, h2, h3⟩ := cut dig_D dig_D hc hd e
  exact ⟨dig_inj h1, h2, h3⟩
/-- the signs behind "[" of a list of ints, "]" too -/
def ilF : List Int → List Nat
  | [] => [93]
  | [a] => dig a ++ [93]
  | a :: b :: l => dig a ++ 44 :: 32 :: ilF (b :: l)
theorem n93 : ¬ D 93 := by unfold D; omega
theorem n44 : ¬ D 44 := by unfold D; omega
theorem n41 : ¬ D 41 := by unfold D; omega
theorem ilF_cut : ∀ {xs ys : List Int} {u v : List Nat}, ilF xs ++ u = ilF ys ++ v → xs = ys ∧ u = v
  | [], [], u, v, e => by injection e with _ e; exact ⟨rfl, e⟩
  | [], [b], u, v, e => by
    simp only [ilF, List.append_assoc, List.cons_append, List.nil_append] at e
    have := cut (a := []) (b := dig b) (fun z h => nomatch h) dig_D n93 n93 e
    exact absurd this.1.symm (dig_ne b)
  | [], b :: c :: l, u, v, e => by
    simp only [ilF, List.append_assoc, List.cons_append, List.nil_append] at e
    have := cut (a := []) (b := dig b) (fun z h => nomatch h) dig_D n93 n44 e
    exact absurd this.1.symm (dig_ne b)
  | [a], [], u, v, e => by
    simp only [ilF, List.append_assoc, List.cons_append, List.nil_append] at e
    have := cut (a := dig a) (b := []) dig_D (fun z h => nomatch h) n93 n93 e
    exact absurd this.1 (dig_ne a)
  | [a], [b], u, v, e => by
    simp only [ilF, List.append_assoc, List.cons_append, List.nil_append] at e
    obtain ⟨h1, _, h3⟩ := cut_int n93 n93 e
    exact ⟨by rw [h1], h3⟩
  | [a], b :: c :: l, u, v, e => by
    simp only [ilF, List.append_assoc, List.cons_append, List.nil_append] at e
    have := cut_int n93 n44 e
    omega
  | a :: c :: l, [], u, v, e => by
    simp only [ilF, List.append_assoc, List.cons_append, List.nil_append] at e
    have := cut (a := dig a) (b := []) dig_D (fun z h => nomatch h) n44 n93 e
    exact absurd this.1 (dig_ne a)
  | a :: c :: l, [b], u, v, e => by
    simp only [ilF, List.append_assoc, List.cons_append, List.nil_append] at e
    have := cut_int n44 n93 e
    omega
  | a :: c :: l, b :: d :: m, u, v, e => by
    simp only [ilF, List.append_assoc, List.cons_append, List.nil_append] at e
    obtain ⟨h1, _, h3⟩ := cut_int n44 n44 e
    injection h3 with _ h3
    obtain ⟨h4, h5⟩ := ilF_cut h3
    exact ⟨by rw [h1, h4], h5⟩
/-- the texts of a list, behind the first sign -/
def tlF : List Str → List Nat
  | [] => []
  | t :: ts => 44 :: 32 :: (t.cps.toList ++ tlF ts)
theorem sep_codes : ((", " : String) : Str).cps.toList = [44, 32] := by rw [signs_ofString]; rfl
theorem from_codes : ∀ (ts : List Str) (k : Nat) (acc : Str), 0 < k → (textFrom k acc ts).cps.toList = acc.cps.toList ++ tlF ts
  | [], k, acc, _ => by simp [textFrom, tlF]
  | t :: ts, k, acc, hk => by
    unfold textFrom
    rw [from_codes ts (k + 1) _ (Nat.succ_pos _), cps_toList_append, cps_toList_append, if_pos hk, sep_codes]
    simp [tlF]
theorem list_codes (t : Str) (ts : List Str) : (listText (t :: ts)).cps.toList = 91 :: (t.cps.toList ++ (tlF ts ++ [93])) := by
  unfold listText textFrom
  rw [cps_toList_append, from_codes ts 1 _ (by decide), cps_toList_append, cps_toList_append]
  have e1 : (("[" : String) : Str).cps.toList = [91] := by rw [signs_ofString]; rfl
  have e2 : (("]" : String) : Str).cps.toList = [93] := by rw [signs_ofString]; rfl
  have e3 : ((if 0 > 0 then ", " else "" : String) : Str).cps.toList = [] := by rw [signs_ofString]; rfl
  rw [e1, e2, e3]
  simp
theorem shownAll_ints (us : List Int) : PyData.shownAll (us.map PyData.int) = us.map fun i => (toString i : Str) := by
  induction us with
  | nil => rfl
  | cons u us ih => simp only [List.map_cons, PyData.shownAll, ih, PyData.shown]
theorem tlF_ints : ∀ (a : Int) (us : List Int), dig a ++ (tlF (us.map fun i => (toString i : Str)) ++ [93]) = ilF (a :: us)
  | a, [] => by simp [tlF, ilF]
  | a, b :: us => by
    have ih := tlF_ints b us
    simp only [List.map_cons, tlF, ilF, List.cons_append, List.append_assoc]
    rw [← ih]
    rfl
theorem ints_codes (us : List Int) : (PyData.shown (.list (us.map PyData.int))).cps.toList = 91 :: ilF us := by
  simp only [PyData.shown]
  rw [shownAll_ints]
  cases us with
  | nil => 
    show (listText []).cps.toList = _
    unfold listText textFrom
    rw [cps_toList_append]
    have e1 : (("[" : String) : Str).cps.toList = [91] := by rw [signs_ofString]; rfl
    have e2 : (("]" : String) : Str).cps.toList = [93] := by rw [signs_ofString]; rfl
    rw [e1, e2]
    rfl
  | cons a us =>
    rw [List.map_cons, list_codes]
    exact congrArg _ (tlF_ints a us)
theorem ints_inj {xs ys : List Int} (h : PyData.shown (.list (xs.map PyData.int)) = PyData.shown (.list (ys.map PyData.int))) : xs = ys := by
  have e := congrArg (fun x : Str => x.cps.toList) h
  simp only [ints_codes] at e
  injection e with _ e
  exact (ilF_cut (u := []) (v := []) (by rw [List.append_nil, List.append_nil]; exact e)).1
theorem sh_list (l : List PyData) : PyData.shown (.list l) = listText (PyData.shownAll l) := by simp only [PyData.shown]
/-- a list of ints, two ints, and more: what is written tells them -/
theorem form_inj {xs ys : List Int} {p q g e : Int} {a b : PyData} {ds es : List PyData}
    (h : PyData.shown (.list (.list (xs.map PyData.int) :: .int p :: .int g :: a :: ds)) = PyData.shown (.list (.list (ys.map PyData.int) :: .int q :: .int e :: b :: es))) : xs = ys ∧ p = q ∧ g = e := by
  have h := congrArg (fun x : Str => x.cps.toList) h
  rw [sh_list, sh_list] at h
  simp only [PyData.shownAll] at h
  rw [list_codes, list_codes] at h
  injection h with _ h
  rw [ints_codes, ints_codes] at h
  simp only [List.cons_append, tlF, PyData.shown] at h
  injection h with _ h
  obtain ⟨h1, h⟩ := ilF_cut h
  injection h with _ h
  injection h with _ h
  rw [List.append_assoc, List.append_assoc] at h
  obtain ⟨h2, _, h⟩ := cut_int (a := p) (b := q) n44 n44 h
  injection h with _ h
  rw [show ∀ l m : List Nat, l.append m = l ++ m from fun _ _ => rfl, show ∀ l m : List Nat, l.append m = l ++ m from fun _ _ => rfl, List.append_assoc, List.append_assoc] at h
  obtain ⟨h3, _, h⟩ := cut_int (a := g) (b := e) n44 n44 h
  exact ⟨h1, h2, h3⟩
end IJ

/-! Rows as they are drawn, rows near them, and what 900 values tell. -/
namespace VM
theorem getD_left {xs : List Int} {v : Int} {i : Nat} (h : i < xs.length) : (xs ++ [v]).getD i 0 = xs.getD i 0 := by
  rw [List.getD_eq_getElem?_getD, List.getD_eq_getElem?_getD, List.getElem?_append_left h]
theorem getD_end {xs : List Int} {v : Int} {i : Nat} (h : i = xs.length) : (xs ++ [v]).getD i 0 = v := by
  subst h
  rw [List.getD_eq_getElem?_getD, List.getElem?_append_right (Nat.le_refl _), Nat.sub_self]
  rfl
/-- values in steps of at most four -/
structure Wr (xs : List Int) : Prop where
  lo : ∀ i, i < xs.length → 0 ≤ xs.getD i 0
  hi : ∀ i, i < xs.length → xs.getD i 0 ≤ 4 * ((i : Int) + 1)
  up : ∀ i, i + 1 < xs.length → xs.getD i 0 ≤ xs.getD (i + 1) 0 ∧ xs.getD (i + 1) 0 ≤ xs.getD i 0 + 4
theorem Wr.nil : Wr [] := ⟨fun i h => absurd h (by simp), fun i h => absurd h (by simp), fun i h => absurd h (by simp)⟩
theorem Wr.push {xs : List Int} {d : Int} (h : Wr xs) (d0 : 0 ≤ d) (d1 : d ≤ 4) : Wr (xs ++ [((0 : Int) :: xs).getD xs.length 0 + d]) := by
  have last : 0 ≤ ((0 : Int) :: xs).getD xs.length 0 ∧ ((0 : Int) :: xs).getD xs.length 0 ≤ 4 * (xs.length : Int) ∧ (∀ i, i + 1 = xs.length → ((0 : Int) :: xs).getD xs.length 0 = xs.getD i 0) := by
    cases e : xs.length with
    | zero => exact ⟨Int.le_refl _, Int.le_refl _, fun i hi => by omega⟩
    | succ n =>
      have a := h.lo n (by omega)
      have b := h.hi n (by omega)
      refine ⟨a, ?_, fun i hi => ?_⟩
      · show xs.getD n 0 ≤ _
        omega
      · rw [show i = n by omega]; rfl
  generalize ((0 : Int) :: xs).getD xs.length 0 = z at *
  refine ⟨fun i hi => ?_, fun i hi => ?_, fun i hi => ?_⟩ <;> rw [List.length_append, List.length_singleton] at hi
  · by_cases c : i < xs.length
    · rw [getD_left c]; exact h.lo i c
    · rw [getD_end (by omega)]; omega
  · by_cases c : i < xs.length
    · rw [getD_left c]; exact h.hi i c
    · rw [getD_end (by omega)]; omega
  · rw [getD_left (by omega)]
    by_cases c : i + 1 < xs.length
    · rw [getD_left c]; exact h.up i c
    · rw [getD_end (by omega)]
      have := last.2.2 i (by omega)
      omega
/-- a row as it is drawn -/
structure Dr (xs : List Int) (p g : Int) : Prop where
  w : Wr xs
  n1 : 1 ≤ xs.length
  n2 : xs.length ≤ 7
  per : p = 1 ∨ p = 2 ∨ p = 3 ∨ p = 4 ∨ p = 6
  pn : p ≤ xs.length
  g0 : xs.getD (xs.length - 1) 0 - xs.getD (xs.length - p.toNat) 0 ≤ g
  g1 : g ≤ xs.getD (xs.length - 1) 0 - xs.getD (xs.length - p.toNat) 0 + 2
theorem at_far {xs : List Int} {p g t : Int} {k i : Nat} (p0 : 0 < p) (pn : p ≤ xs.length) (h : (xs.length : Int) + k * p < t + p) (e : t = (i : Int) + 1 + k * p) (hi : i < xs.length) :
    cvAt xs p g t = xs.getD i 0 + k * g := by
  rw [(Rep.cvAt p0 pn).times p0 k t h, show t - (k : Int) * p = (i : Int) + 1 by omega, cvAt_in (by omega) (by omega), show ((i : Int) + 1 - 1).toNat = i by omega]
/-- the places that 900 and 899 take in a row, what stands there -/
structure Far (xs : List Int) (p g : Int) where
  q : Nat
  k : Nat
  i : Nat
  m : Nat
  k' : Nat
  i' : Nat
  m' : Nat
  qp : (q : Int) * p = 12
  km : k + m = 75 * q
  km' : k' + m' = 75 * q
  h : (xs.length : Int) + k * p < 900 + p
  e : (900 : Int) = (i : Int) + 1 + k * p
  hi : i < xs.length
  h' : (xs.length : Int) + k' * p < 899 + p
  e' : (899 : Int) = (i' : Int) + 1 + k' * p
  hi' : i' < xs.length
  first : p < xs.length → 1 ≤ i
  lo : -21 + (m : Int) ≤ xs.getD i 0 - m * g
  up : xs.getD i 0 - m * g ≤ 28
  lo' : -21 ≤ xs.getD i' 0 - m' * g
  few : (m : Int) ≤ 7
  few2 : p ≠ 1 → (m : Int) ≤ 3
theorem Dr.far {xs : List Int} {p g : Int} (D : Dr xs p g) : Nonempty (Far xs p g) := by
  obtain ⟨w, n1, n2, per, pn, g0, g1⟩ := D
  have l0 := w.lo 0; have u0 := w.hi 0
  have s0 := w.up 0; have s1 := w.up 1; have s2 := w.up 2; have s3 := w.up 3; have s4 := w.up 4; have s5 := w.up 5
  simp only [Nat.reduceAdd] at s0 s1 s2 s3 s4 s5
  have hn : xs.length = 1 ∨ xs.length = 2 ∨ xs.length = 3 ∨ xs.length = 4 ∨ xs.length = 5 ∨ xs.length = 6 ∨ xs.length = 7 := by omega
  clear w
  rcases per with rfl | rfl | rfl | rfl | rfl
  · rcases hn with n | n | n | n | n | n | n <;> rw [n] at g0 g1 s0 s1 s2 s3 s4 s5 l0 u0 pn <;> simp only [Nat.reduceSub, Nat.reduceLT, Nat.reduceAdd, true_implies, false_implies, Int.reduceToNat, Int.toNat_one] at g0 g1 s0 s1 s2 s3 s4 s5 l0 u0
    · exact ⟨⟨12, 899, 0, 1, 898, 0, 2, by omega, by omega, by omega, by omega, by omega, by omega, by omega, by omega, by omega, by omega, by omega, by omega, by omega, by omega, by omega⟩⟩
    · exact ⟨⟨12, 898, 1, 2, 897, 1, 3, by omega, by omega, by omega, by omega, by omega, by omega, by omega, by omega, by omega, by omega, by omega, by omega, by omega, by omega, by omega⟩⟩
    · exact ⟨⟨12, 897, 2, 3, 896, 2, 4, by omega, by omega, by omega, by omega, by omega, by omega, by omega, by omega, by omega, by omega, by omega, by omega, by omega, by omega, by omega⟩⟩
    · exact ⟨⟨12, 896, 3, 4, 895, 3, 5, by omega, by omega, by omega, by omega, by omega, by omega, by omega, by omega, by omega, by omega, by omega, by omega, by omega, by omega, by omega⟩⟩
    · exact ⟨⟨12, 895, 4, 5, 894, 4, 6, by omega, by omega, by omega, by omega, by omega, by omega, by omega, by omega, by omega, by omega, by omega, by omega, by omega, by omega, by omega⟩⟩
    · exact ⟨⟨12, 894, 5, 6, 893, 5, 7, by omega, by omega, by omega, by omega, by omega, by omega, by omega, by omega, by omega, by omega, by omega, by omega, by omega, by omega, by omega⟩⟩
    · exact ⟨⟨12, 893, 6, 7, 892, 6, 8, by omega, by omega, by omega, by omega, by omega, by omega, by omega, by omega, by omega, by omega, by omega, by omega, by omega, by omega, by omega⟩⟩
  · rcases hn with n | n | n | n | n | n | n <;> rw [n] at g0 g1 s0 s1 s2 s3 s4 s5 l0 u0 pn <;> simp only [Nat.reduceSub, Nat.reduceLT, Nat.reduceAdd, true_implies, false_implies, Int.reduceToNat, Int.toNat_one] at g0 g1 s0 s1 s2 s3 s4 s5 l0 u0
    · exact absurd pn (by decide)
    · exact ⟨⟨6, 449, 1, 1, 449, 0, 1, by omega, by omega, by omega, by omega, by omega, by omega, by omega, by omega, by omega, by omega, by omega, by omega, by omega, by omega, by omega⟩⟩
    · exact ⟨⟨6, 449, 1, 1, 448, 2, 2, by omega, by omega, by omega, by omega, by omega, by omega, by omega, by omega, by omega, by omega, by omega, by omega, by omega, by omega, by omega⟩⟩
    · exact ⟨⟨6, 448, 3, 2, 448, 2, 2, by omega, by omega, by omega, by omega, by omega, by omega, by omega, by omega, by omega, by omega, by omega, by omega, by omega, by omega, by omega⟩⟩
    · exact ⟨⟨6, 448, 3, 2, 447, 4, 3, by omega, by omega, by omega, by omega, by omega, by omega, by omega, by omega, by omega, by omega, by omega, by omega, by omega, by omega, by omega⟩⟩
    · exact ⟨⟨6, 447, 5, 3, 447, 4, 3, by omega, by omega, by omega, by omega, by omega, by omega, by omega, by omega, by omega, by omega, by omega, by omega, by omega, by omega, by omega⟩⟩
    · exact ⟨⟨6, 447, 5, 3, 446, 6, 4, by omega, by omega, by omega, by omega, by omega, by omega, by omega, by omega, by omega, by omega, by omega, by omega, by omega, by omega, by omega⟩⟩
  · rcases hn with n | n | n | n | n | n | n <;> rw [n] at g0 g1 s0 s1 s2 s3 s4 s5 l0 u0 pn <;> simp only [Nat.reduceSub, Nat.reduceLT, Nat.reduceAdd, true_implies, false_implies, Int.reduceToNat, Int.toNat_one] at g0 g1 s0 s1 s2 s3 s4 s5 l0 u0
    · exact absurd pn (by decide)
    · exact absurd pn (by decide)
    · exact ⟨⟨4, 299, 2, 1, 299, 1, 1, by omega, by omega, by omega, by omega, by omega, by omega, by omega, by omega, by omega, by omega, by omega, by omega, by omega, by omega, by omega⟩⟩
    · exact ⟨⟨4, 299, 2, 1, 299, 1, 1, by omega, by omega, by omega, by omega, by omega, by omega, by omega, by omega, by omega, by omega, by omega, by omega, by omega, by omega, by omega⟩⟩
    · exact ⟨⟨4, 299, 2, 1, 298, 4, 2, by omega, by omega, by omega, by omega, by omega, by omega, by omega, by omega, by omega, by omega, by omega, by omega, by omega, by omega, by omega⟩⟩
    · exact ⟨⟨4, 298, 5, 2, 298, 4, 2, by omega, by omega, by omega, by omega, by omega, by omega, by omega, by omega, by omega, by omega, by omega, by omega, by omega, by omega, by omega⟩⟩
    · exact ⟨⟨4, 298, 5, 2, 298, 4, 2, by omega, by omega, by omega, by omega, by omega, by omega, by omega, by omega, by omega, by omega, by omega, by omega, by omega, by omega, by omega⟩⟩
  · rcases hn with n | n | n | n | n | n | n <;> rw [n] at g0 g1 s0 s1 s2 s3 s4 s5 l0 u0 pn <;> simp only [Nat.reduceSub, Nat.reduceLT, Nat.reduceAdd, true_implies, false_implies, Int.reduceToNat, Int.toNat_one] at g0 g1 s0 s1 s2 s3 s4 s5 l0 u0
    · exact absurd pn (by decide)
    · exact absurd pn (by decide)
    · exact absurd pn (by decide)
    · exact ⟨⟨3, 224, 3, 1, 224, 2, 1, by omega, by omega, by omega, by omega, by omega, by omega, by omega, by omega, by omega, by omega, by omega, by omega, by omega, by omega, by omega⟩⟩
    · exact ⟨⟨3, 224, 3, 1, 224, 2, 1, by omega, by omega, by omega, by omega, by omega, by omega, by omega, by omega, by omega, by omega, by omega, by omega, by omega, by omega, by omega⟩⟩
    · exact ⟨⟨3, 224, 3, 1, 224, 2, 1, by omega, by omega, by omega, by omega, by omega, by omega, by omega, by omega, by omega, by omega, by omega, by omega, by omega, by omega, by omega⟩⟩
    · exact ⟨⟨3, 224, 3, 1, 223, 6, 2, by omega, by omega, by omega, by omega, by omega, by omega, by omega, by omega, by omega, by omega, by omega, by omega, by omega, by omega, by omega⟩⟩
  · rcases hn with n | n | n | n | n | n | n <;> rw [n] at g0 g1 s0 s1 s2 s3 s4 s5 l0 u0 pn <;> simp only [Nat.reduceSub, Nat.reduceLT, Nat.reduceAdd, true_implies, false_implies, Int.reduceToNat, Int.toNat_one] at g0 g1 s0 s1 s2 s3 s4 s5 l0 u0
    · exact absurd pn (by decide)
    · exact absurd pn (by decide)
    · exact absurd pn (by decide)
    · exact absurd pn (by decide)
    · exact absurd pn (by decide)
    · exact ⟨⟨2, 149, 5, 1, 149, 4, 1, by omega, by omega, by omega, by omega, by omega, by omega, by omega, by omega, by omega, by omega, by omega, by omega, by omega, by omega, by omega⟩⟩
    · exact ⟨⟨2, 149, 5, 1, 149, 4, 1, by omega, by omega, by omega, by omega, by omega, by omega, by omega, by omega, by omega, by omega, by omega, by omega, by omega, by omega, by omega⟩⟩
/-- rows near the drawn ones -/
structure Nr (xs : List Int) (p g : Int) : Prop where
  n1 : 1 ≤ xs.length
  n2 : xs.length ≤ 13
  lo0 : 0 ≤ xs.getD 0 0
  hi0 : xs.getD 0 0 ≤ 5
  st : ∀ i, i + 1 < xs.length → xs.getD i 0 ≤ xs.getD (i + 1) 0 ∧ xs.getD (i + 1) 0 ≤ xs.getD i 0 + 5
  per : p = 1 ∨ p = 2 ∨ p = 3 ∨ p = 4 ∨ p = 6
  pn : p ≤ xs.length
  wr : xs.getD (xs.length - 1) 0 ≤ xs.getD (xs.length - p.toNat) 0 + g ∧ xs.getD (xs.length - p.toNat) 0 + g ≤ xs.getD (xs.length - 1) 0 + 3
theorem Nr.p0 {xs : List Int} {p g : Int} (N : Nr xs p g) : 0 < p ∧ p ≤ 6 := by rcases N.per with h | h | h | h | h <;> omega
theorem Nr.vs {xs : List Int} {p g : Int} (N : Nr xs p g) : ∀ i, i < xs.length → 0 ≤ xs.getD i 0 ∧ xs.getD i 0 ≤ 5 * ((i : Int) + 1)
  | 0, _ => ⟨N.lo0, by have := N.hi0; omega⟩
  | i + 1, h => by
    have := N.vs i (by omega)
    have := N.st i h
    omega
theorem Nr.mono {xs : List Int} {p g : Int} (N : Nr xs p g) : ∀ (d i : Nat), i + d < xs.length → xs.getD i 0 ≤ xs.getD (i + d) 0
  | 0, i, _ => Int.le_refl _
  | d + 1, i, h => by
    have := N.mono d i (by omega)
    have := N.st (i + d) (by omega)
    rw [show i + (d + 1) = i + d + 1 by omega]
    omega
theorem Nr.g_ {xs : List Int} {p g : Int} (N : Nr xs p g) : 0 ≤ g ∧ g ≤ 100 := by
  have n1 := N.n1
  have n2 := N.n2
  have p0 := N.p0
  have pn := N.pn
  have a := N.vs (xs.length - 1) (by omega)
  have b := N.vs (xs.length - p.toNat) (by omega)
  have c := N.mono (p.toNat - 1) (xs.length - p.toNat) (by omega)
  rw [show xs.length - p.toNat + (p.toNat - 1) = xs.length - 1 by omega] at c
  have w := N.wr
  omega
theorem Nr.step {xs : List Int} {p g : Int} (N : Nr xs p g) : ∀ t : Nat, cvAt xs p g t ≤ cvAt xs p g ((t : Int) + 1) ∧ cvAt xs p g ((t : Int) + 1) ≤ cvAt xs p g t + 5 := by
  have n1 := N.n1
  have p0 := N.p0
  have pn := N.pn
  intro t
  induction t using Nat.strongRecOn with
  | ind t ih =>
    by_cases c : t < xs.length
    · rw [cvAt_in (t := (t : Int) + 1) (by omega) (by omega), show ((t : Int) + 1 - 1).toNat = t by omega]
      cases t with
      | zero =>
        rw [show ((0 : Nat) : Int) = 0 from rfl, cvAt_zero]
        exact ⟨N.lo0, by have := N.hi0; omega⟩
      | succ k =>
        rw [cvAt_in (by omega) (by omega), show (((k + 1 : Nat) : Int) - 1).toNat = k by omega]
        exact N.st k c
    · rw [cvAt_back (t := (t : Int) + 1) p0.1 pn (by omega)]
      by_cases d : t = xs.length
      · rw [cvAt_in (t := (t : Int)) (by omega) (by omega), cvAt_in (t := (t : Int) + 1 - p) (by omega) (by omega), show ((t : Int) - 1).toNat = xs.length - 1 by omega, show ((t : Int) + 1 - p - 1).toNat = xs.length - p.toNat by omega]
        have := N.wr
        omega
      · rw [cvAt_back (t := (t : Int)) p0.1 pn (by omega)]
        have := ih (t - p.toNat) (by omega)
        rw [show ((t - p.toNat : Nat) : Int) = t - p by omega, show (t : Int) - p + 1 = t + 1 - p by omega] at this
        omega
theorem Nr.bd {xs : List Int} {p g : Int} (N : Nr xs p g) : ∀ t : Nat, 0 ≤ cvAt xs p g t ∧ cvAt xs p g t ≤ 5 * (t : Int)
  | 0 => by rw [show ((0 : Nat) : Int) = 0 from rfl, cvAt_zero]; omega
  | t + 1 => by
    have := N.bd t
    have := N.step t
    rw [show ((t + 1 : Nat) : Int) = (t : Int) + 1 by omega]
    omega
def stp (p : Int) : Int := if p = 1 then 3 else 5
theorem Nr.far_step {xs : List Int} {p g : Int} (N : Nr xs p g) (t : Nat) (h : 13 ≤ t) : cvAt xs p g t ≤ cvAt xs p g ((t : Int) + 1) ∧ cvAt xs p g ((t : Int) + 1) ≤ cvAt xs p g t + stp p := by
  have := N.step t
  have n2 := N.n2
  have pn := N.pn
  unfold stp
  by_cases c : p = 1
  · subst c
    have w := N.wr
    rw [show (1 : Int).toNat = 1 from rfl] at w
    rw [cvAt_back (t := (t : Int) + 1) (by decide) pn (by omega), show (t : Int) + 1 - 1 = t by omega, if_pos rfl]
    omega
  · rw [if_neg c]; exact this
/-- how much a row grows in so many ticks far out -/
theorem Nr.far_steps {xs : List Int} {p g : Int} (N : Nr xs p g) (t : Nat) (h : 13 ≤ t) : ∀ d : Nat, cvAt xs p g t ≤ cvAt xs p g ((t : Int) + d) ∧ cvAt xs p g ((t : Int) + d) ≤ cvAt xs p g t + stp p * d
  | 0 => by rw [show ((0 : Nat) : Int) = 0 from rfl, Int.add_zero, Int.mul_zero]; omega
  | d + 1 => by
    have a := N.far_steps t h d
    have b := N.far_step (t + d) (by omega)
    rw [show ((t + d : Nat) : Int) = (t : Int) + d by omega] at b
    rw [show (t : Int) + ((d + 1 : Nat) : Int) = (t : Int) + d + 1 by omega, show ((d + 1 : Nat) : Int) = (d : Int) + 1 by omega, Int.mul_add, Int.mul_one]
    omega
theorem Dr.nr {xs : List Int} {p g : Int} (D : Dr xs p g) : Nr xs p g := by
  obtain ⟨w, n1, n2, per, pn, g0, g1⟩ := D
  exact ⟨n1, by omega, w.lo 0 (by omega), by have := w.hi 0 (by omega); omega, fun i h => by have := w.up i h; omega, per, pn, by omega⟩
/-- what may be made of a drawn row by the law -/
inductive Near (xs : List Int) (p g : Int) : List Int → Int → Prop
  | last : Near xs p g (xs.set (xs.length - 1) (xs.getD (xs.length - 1) 0 + 1)) (g + 1)
  | gain : Near xs p g xs (g + 1)
  | long : Near xs p g (vals (cvAt xs p g) (xs.length + p.toNat)) g
  | late : Near xs p g (0 :: xs) g
  | less (h : p < xs.length) : Near xs p g (xs.set 0 (max 0 (xs.getD 0 0 - 1))) g
  | same : Near xs p g xs g
theorem set_same {xs : List Int} {i : Nat} {v : Int} (h : i < xs.length) : (xs.set i v).getD i 0 = v := by
  rw [List.getD_eq_getElem?_getD, List.getElem?_set_self h]; rfl
theorem set_ne {xs : List Int} {i j : Nat} {v : Int} (h : i ≠ j) : (xs.set i v).getD j 0 = xs.getD j 0 := by
  rw [List.getD_eq_getElem?_getD, List.getD_eq_getElem?_getD, List.getElem?_set_ne h]
theorem Near.nr {xs ys : List Int} {p g h : Int} (D : Dr xs p g) (H : Near xs p g ys h) : Nr ys p h := by
  have N := D.nr
  have n1 := D.n1
  have n2 := D.n2
  have pn := D.pn
  have p0 := N.p0
  have g0 := D.g0
  have g1 := D.g1
  cases H with
  | last =>
    refine ⟨by rw [List.length_set]; exact n1, by rw [List.length_set]; omega, ?_, ?_, fun i hi => ?_, D.per, by rw [List.length_set]; exact pn, ?_⟩
    · by_cases c : xs.length - 1 = 0
      · rw [c, set_same (by omega)]; have := D.w.lo 0 (by omega); omega
      · rw [set_ne c]; exact D.w.lo 0 (by omega)
    · by_cases c : xs.length - 1 = 0
      · rw [c, set_same (by omega)]; have := D.w.hi 0 (by omega); omega
      · rw [set_ne c]; have := D.w.hi 0 (by omega); omega
    · rw [List.length_set] at hi
      have u := D.w.up i hi
      rw [set_ne (by omega)]
      by_cases c : xs.length - 1 = i + 1
      · rw [c, set_same (by omega)]; omega
      · rw [set_ne c]; omega
    · rw [List.length_set, set_same (by omega)]
      by_cases c : xs.length - 1 = xs.length - p.toNat
      · rw [← c, set_same (by omega)]; rw [← c] at g0 g1; omega
      · rw [set_ne c]; omega
  | gain => exact ⟨N.n1, N.n2, N.lo0, N.hi0, N.st, N.per, N.pn, by omega⟩
  | same => exact N
  | late =>
    refine ⟨by simp, by simp; omega, by simp, by simp, fun i hi => ?_, D.per, by simp; omega, ?_⟩
    · cases i with
      | zero => exact ⟨N.lo0, by have := N.hi0; show xs.getD 0 0 ≤ 0 + 5; omega⟩
      | succ k => exact N.st k (by simpa using hi)
    · rw [List.length_cons, show xs.length + 1 - 1 = (xs.length - 1) + 1 by omega, show xs.length + 1 - p.toNat = (xs.length - p.toNat) + 1 by omega]
      exact N.wr
  | less c =>
    have u0 := D.w.up 0 (by omega)
    have l0 := D.w.lo 0 (by omega)
    have h0 := D.w.hi 0 (by omega)
    refine ⟨by rw [List.length_set]; exact n1, by rw [List.length_set]; omega, by rw [set_same (by omega)]; omega, by rw [set_same (by omega)]; omega, fun i hi => ?_, D.per, by rw [List.length_set]; exact pn, ?_⟩
    · rw [List.length_set] at hi
      rw [set_ne (j := i + 1) (by omega)]
      cases i with
      | zero => rw [set_same (by omega)]; simp only [Nat.zero_add] at u0 ⊢; omega
      | succ k => rw [set_ne (by omega)]; exact N.st _ hi
    · rw [List.length_set, set_ne (by omega), set_ne (by omega)]
      exact N.wr
  | long =>
    have s0 := N.step 0
    rw [show ((0 : Nat) : Int) = 0 from rfl, cvAt_zero] at s0
    have w := N.wr
    refine ⟨by rw [vals_length]; omega, by rw [vals_length]; omega, by rw [vals_getD (by omega)]; exact s0.1, by rw [vals_getD (by omega)]; have := s0.2; simp only [Int.zero_add] at this ⊢; exact this, fun i hi => ?_, D.per, by rw [vals_length]; omega, ?_⟩
    · rw [vals_length] at hi
      rw [vals_getD (by omega), vals_getD (by omega)]
      exact N.step (i + 1)
    · rw [vals_length, vals_getD (by omega), vals_getD (by omega)]
      rw [show ((xs.length + p.toNat - 1 : Nat) : Int) + 1 = xs.length + p by omega, show ((xs.length + p.toNat - p.toNat : Nat) : Int) + 1 = (xs.length : Int) + 1 by omega]
      rw [cvAt_back (t := (xs.length : Int) + p) p0.1 pn (by omega), cvAt_back (t := (xs.length : Int) + 1) p0.1 pn (by omega), show (xs.length : Int) + p - p = xs.length by omega, cvAt_in (by omega) (by omega), cvAt_in (by omega) (by omega)]
      rw [show ((xs.length : Int) + 1 - p - 1).toNat = xs.length - p.toNat by omega, show ((xs.length : Int) - 1).toNat = xs.length - 1 by omega]
      omega
/-- by how much a function is ahead of its rate at 900 -/
def off (f : Int → Int) (a : Int) : Int := f 900 - 75 * a
def gn (p g : Int) : Int := g * (12 / p)
structure Sp2 (e1 e2 m s : Int) : Prop where
  l1 : -21 ≤ e1
  u1 : e1 ≤ 28
  l2 : -21 ≤ e2
  le : e2 ≤ e1
  ge : e1 ≤ e2 + m
  ms : m + 8 * s ≤ 46
  s3 : 3 ≤ s
  s5 : s ≤ 5
theorem Nr.rep {xs : List Int} {p g : Int} (N : Nr xs p g) : Rep (cvAt xs p g) 880 12 (gn p g) := by
  have p0 := N.p0
  have pn := N.pn
  have n2 := N.n2
  exact (Rep.cvAt p0.1 pn).mul p0.1 (by rcases N.per with h | h | h | h | h <;> subst h <;> decide) (by decide) (by omega)
theorem off_at {xs : List Int} {p g : Int} {k i m q : Nat} (p0 : 0 < p) (pn : p ≤ xs.length) (qp : (q : Int) * p = 12) (km : k + m = 75 * q) (h : (xs.length : Int) + k * p < 900 + p) (e : (900 : Int) = (i : Int) + 1 + k * p) (hi : i < xs.length) :
    off (cvAt xs p g) (gn p g) = xs.getD i 0 - m * g := by
  unfold off gn
  rw [at_far p0 pn h e hi]
  have e1 : (12 : Int) / p = q := by rw [← qp]; exact Int.mul_ediv_cancel _ (by omega)
  have e2 : (k : Int) = 75 * q - m := by omega
  rw [e1, e2, Int.sub_mul, Int.mul_comm g, ← Int.mul_assoc]
  omega
theorem Near.spec {xs ys : List Int} {p g h : Int} (D : Dr xs p g) (H : Near xs p g ys h) : Sp2 (off (cvAt xs p g) (gn p g)) (off (cvAt ys p h) (gn p h)) (if p = 1 then 7 else 6) (stp p) := by
  obtain ⟨F⟩ := D.far
  have N := D.nr
  have p0 := N.p0
  have pn := D.pn
  have n1 := D.n1
  have e1 := off_at (g := g) p0.1 pn F.qp F.km F.h F.e F.hi
  have g0 := N.g_.1
  have lo := F.lo
  have up := F.up
  have m1 := F.few
  have m2 := F.few2
  have s_ : (if p = 1 then (7 : Int) else 6) + 8 * stp p ≤ 46 ∧ 3 ≤ stp p ∧ stp p ≤ 5 ∧ F.m ≤ (if p = 1 then (7 : Int) else 6) ∧ stp p ≤ (if p = 1 then (7 : Int) else 6) := by
    unfold stp
    by_cases c : p = 1
    · simp only [if_pos c]; omega
    · simp only [if_neg c]; have := m2 c; omega
  have mk : ∀ e2 : Int, -21 ≤ e2 → e2 ≤ xs.getD F.i 0 - F.m * g → xs.getD F.i 0 - F.m * g ≤ e2 + (if p = 1 then (7 : Int) else 6) → Sp2 (off (cvAt xs p g) (gn p g)) e2 (if p = 1 then 7 else 6) (stp p) := fun e2 h1 h2 h3 =>
    ⟨by omega, by omega, h1, by omega, by omega, s_.1, s_.2.1, s_.2.2.1⟩
  cases H with
  | same => rw [e1]; rw [e1] at mk; exact mk _ (by omega) (Int.le_refl _) (by omega)
  | gain =>
    rw [off_at (g := g + 1) p0.1 pn F.qp F.km F.h F.e F.hi, Int.mul_add, Int.mul_one]
    exact mk _ (by omega) (by omega) (by omega)
  | last =>
    rw [off_at (g := g + 1) p0.1 (by rw [List.length_set]; exact pn) F.qp F.km (by rw [List.length_set]; exact F.h) F.e (by rw [List.length_set]; exact F.hi), Int.mul_add, Int.mul_one]
    have fm : 1 ≤ F.m := by
      have a := F.km
      have b := F.e
      have c := F.qp
      have d : (900 : Int) = 75 * (F.q * p) := by rw [c]; decide
      rw [← Int.mul_assoc] at d
      have e : ((F.k : Int) + F.m) * p = 75 * F.q * p := by rw [show ((F.k : Int) + F.m) = 75 * F.q by omega]
      rw [Int.add_mul] at e
      cases z : F.m with
      | zero => rw [z] at e; simp at e; omega
      | succ k => omega
    by_cases c : xs.length - 1 = F.i
    · rw [c, set_same F.hi]
      exact mk _ (by omega) (by omega) (by omega)
    · rw [set_ne c]
      exact mk _ (by omega) (by omega) (by omega)
  | long =>
    have e : off (cvAt (vals (cvAt xs p g) (xs.length + p.toNat)) p g) (gn p g) = off (cvAt xs p g) (gn p g) := by
      unfold off
      rw [cvAt_vals p0.1 (by omega) cvAt_zero ((Rep.cvAt p0.1 pn).weak (by omega)) 900 (by decide)]
    rw [e, e1]; rw [e1] at mk; exact mk _ (by omega) (Int.le_refl _) (by omega)
  | late =>
    have e : off (cvAt (0 :: xs) p g) (gn p g) = cvAt xs p g 899 - 75 * gn p g := by
      unfold off
      rw [show (0 : Int) :: xs = List.replicate 1 0 ++ xs from rfl, cvAt_later (n := 1) p0.1 pn (by decide)]
      unfold laterF
      rw [if_neg (by decide)]
      rfl
    have f := N.far_step 899 (by decide)
    rw [show ((899 : Nat) : Int) + 1 = 900 from rfl, show ((899 : Nat) : Int) = 899 from rfl] at f
    have e0 : off (cvAt xs p g) (gn p g) = cvAt xs p g 900 - 75 * gn p g := rfl
    have lo' := F.lo'
    have e2 : cvAt xs p g 899 - 75 * gn p g = xs.getD F.i' 0 - F.m' * g := by
      rw [at_far p0.1 pn F.h' F.e' F.hi']
      unfold gn
      have e1 : (12 : Int) / p = F.q := by rw [← F.qp]; exact Int.mul_ediv_cancel _ (by omega)
      have e2 : (F.k' : Int) = 75 * F.q - F.m' := by have := F.km'; omega
      rw [e1, e2, Int.sub_mul, Int.mul_comm g, ← Int.mul_assoc]
      omega
    rw [e]
    exact mk _ (by omega) (by omega) (by omega)
  | less c =>
    rw [off_at (xs := xs.set 0 (max 0 (xs.getD 0 0 - 1))) (g := g) p0.1 (by rw [List.length_set]; exact pn) F.qp F.km (by rw [List.length_set]; exact F.h) F.e (by rw [List.length_set]; exact F.hi)]
    have := F.first c
    rw [set_ne (by omega)]
    exact mk _ (by omega) (by omega) (by omega)
/-- a function of a made curve: it repeats far out, and at 900 it lies near a row's, or near nothing -/
def Fit (e1 e2 s : Int) (F : Int → Int) : Prop := ∃ a, Rep F 888 12 a ∧
  ((∃ e, (e = e1 ∨ e = e2) ∧ e - 8 * s ≤ off F a ∧ off F a ≤ e + 28) ∨ (0 ≤ off F a ∧ off F a ≤ 10))
theorem Fit.down {e1 e2 s : Int} {F : Int → Int} (h : Fit e1 e2 s F) : ∃ a, Rep F 888 12 a := h.elim fun a h => ⟨a, h.1⟩
theorem far_down {F : Int → Int} {a : Int} (R : Rep F 888 12 a) : ∀ t : Nat, 900 < t → ∃ (u j : Nat), 888 < u ∧ u ≤ 900 ∧ t = u + 12 * j ∧ F t = F u + j * a := by
  intro t
  induction t using Nat.strongRecOn with
  | ind t ih =>
    intro ht
    by_cases c : t ≤ 912
    · refine ⟨t - 12, 1, by omega, by omega, by omega, ?_⟩
      rw [R t (by omega), show ((t - 12 : Nat) : Int) = (t : Int) - 12 by omega, show ((1 : Nat) : Int) = 1 from rfl, Int.one_mul]
    · obtain ⟨u, j, h1, h2, h3, h4⟩ := ih (t - 12) (by omega) (by omega)
      refine ⟨u, j + 1, h1, h2, by omega, ?_⟩
      rw [R t (by omega), show (t : Int) - 12 = ((t - 12 : Nat) : Int) by omega, h4, show ((j + 1 : Nat) : Int) = (j : Int) + 1 by omega, Int.add_mul, Int.one_mul]
      omega
/-- below at 900 lengths is below at all -/
theorem Fit.le {e1 e2 m s : Int} (S : Sp2 e1 e2 m s) {F G : Int → Int} (hF : Fit e1 e2 s F) (hG : Fit e1 e2 s G) (h : ∀ t : Int, 1 ≤ t → t ≤ 900 → F t ≤ G t) : ∀ t : Int, 1 ≤ t → F t ≤ G t := by
  obtain ⟨a, R, hF⟩ := hF
  obtain ⟨b, S2, hG⟩ := hG
  have h9 := h 900 (by decide) (by decide)
  obtain ⟨l1, u1, l2, le, ge, ms, s3, s5⟩ := S
  unfold off at hF hG
  have ab : a ≤ b := by
    rcases hF with ⟨e, he, f1, f2⟩ | ⟨f1, f2⟩ <;> rcases hG with ⟨d, hd, g1, g2⟩ | ⟨g1, g2⟩
    · rcases he with rfl | rfl <;> rcases hd with rfl | rfl <;> omega
    · rcases he with rfl | rfl <;> omega
    · rcases hd with rfl | rfl <;> omega
    · omega
  intro t ht
  by_cases c : t ≤ 900
  · exact h t ht c
  · obtain ⟨n, rfl⟩ : ∃ n : Nat, t = (n : Int) := ⟨t.toNat, by omega⟩
    obtain ⟨u, j, h1, h2, h3, h4⟩ := far_down R n (by omega)
    have h5 : ∀ k : Nat, G ((u : Int) + 12 * k) = G u + k * b := by
      intro k
      induction k with
      | zero => simp
      | succ k ih =>
        rw [S2 _ (by omega), show (u : Int) + 12 * ((k + 1 : Nat) : Int) - 12 = (u : Int) + 12 * k by omega, ih, show ((k + 1 : Nat) : Int) = (k : Int) + 1 by omega, Int.add_mul, Int.one_mul]
        omega
    have h6 := h5 j
    rw [show (u : Int) + 12 * (j : Int) = (n : Int) by omega] at h6
    have h7 := h u (by omega) (by omega)
    have h8 : (j : Int) * a ≤ j * b := Int.mul_le_mul_of_nonneg_left ab (by omega)
    rw [h4, h6]
    omega
/-- the same at 900 lengths is the same at all -/
theorem Fit.eq {e1 e2 m s : Int} (S : Sp2 e1 e2 m s) {F G : Int → Int} (hF : Fit e1 e2 s F) (hG : Fit e1 e2 s G) (z : F 0 = G 0) (h : ∀ t : Int, 1 ≤ t → t ≤ 900 → F t = G t) : ∀ t : Int, 0 ≤ t → F t = G t := fun t ht => by
  by_cases c : t = 0
  · rw [c]; exact z
  · have a := Fit.le S hF hG (fun t h1 h2 => by have := h t h1 h2; omega) t (by omega)
    have b := Fit.le S hG hF (fun t h1 h2 => by have := h t h1 h2; omega) t (by omega)
    omega
/-! ### each way of making -/
theorem Fit.row {xs : List Int} {p g e1 e2 s e : Int} (N : Nr xs p g) (s3 : 3 ≤ s) (he : e = e1 ∨ e = e2) (h : off (cvAt xs p g) (gn p g) = e) : Fit e1 e2 s (cvAt xs p g) :=
  ⟨gn p g, N.rep.weak (by decide), .inl ⟨e, he, by omega, by omega⟩⟩
theorem Fit.late {xs : List Int} {p g e1 e2 e : Int} {n : Nat} (N : Nr xs p g) (s3 : 3 ≤ stp p) (he : e = e1 ∨ e = e2) (h : off (cvAt xs p g) (gn p g) = e) (hn : n ≤ 8) : Fit e1 e2 (stp p) (laterF (cvAt xs p g) n) := by
  have a := N.far_steps (900 - n) (by omega) n
  rw [show ((900 - n : Nat) : Int) = 900 - n by omega, show (900 : Int) - n + n = 900 by omega] at a
  refine ⟨gn p g, (later_rep N.rep (by decide) (by decide) (by omega) cvAt_zero).weak (by omega), .inl ⟨e, he, ?_, ?_⟩⟩
  · unfold off at h ⊢
    unfold laterF
    rw [if_neg (by omega)]
    have : stp p * (n : Int) ≤ stp p * 8 := Int.mul_le_mul_of_nonneg_left (by omega) (by omega)
    omega
  · unfold off at h ⊢
    unfold laterF
    rw [if_neg (by omega)]
    omega
theorem Rep.add12 {f h : Int → Int} {N g1 g2 : Int} (R : Rep f N 12 g1) (S : Rep h N 12 g2) : Rep (fun t => f t + h t) N 12 (g1 + g2) := R.add S
theorem Dr.off_ {xs : List Int} {p g : Int} (D : Dr xs p g) : -21 ≤ off (cvAt xs p g) (gn p g) ∧ off (cvAt xs p g) (gn p g) ≤ 28 := by
  have := Near.spec D .same
  exact ⟨this.l1, this.u1⟩
theorem Fit.sum {xs ys : List Int} {p g q c e1 e2 s e : Int} (N : Nr xs p g) (D : Dr ys q c) (s3 : 3 ≤ s) (he : e = e1 ∨ e = e2) (h : off (cvAt xs p g) (gn p g) = e) : Fit e1 e2 s (fun t => cvAt ys q c t + cvAt xs p g t) := by
  have o := D.off_
  refine ⟨gn q c + gn p g, Rep.add12 (D.nr.rep.weak (by decide)) (N.rep.weak (by decide)), .inl ⟨e, he, ?_, ?_⟩⟩ <;> (unfold off at *; show _ ≤ _; simp only []; omega)
/-- a small piece -/
structure PcS (q : Pc) : Prop where
  b0 : 0 ≤ q.b
  b3 : q.b ≤ 3
  u0 : 0 ≤ q.u
  u2 : q.u ≤ 2
  t_ : q.t = 1 ∨ q.t = 2 ∨ q.t = 4
theorem PcS.ok {q : Pc} (h : PcS q) : q.Ok := ⟨h.b0, by have := h.b3; omega, h.u0, by have := h.u2; omega, by rcases h.t_ with e | e | e <;> omega⟩
theorem PcS.r_ {q : Pc} (h : PcS q) : q.r = 0 ∨ q.r = 3 ∨ q.r = 6 ∨ q.r = 12 ∨ q.r = 24 := by
  have a := h.u0
  have b := h.u2
  unfold Pc.r
  rcases h.t_ with e | e | e <;> rw [e] <;> (rcases (show q.u = 0 ∨ q.u = 1 ∨ q.u = 2 by omega) with z | z | z <;> rw [z] <;> omega)
/-- two small lines: from 13 on one of the lesser rate is the lower -/
theorem two_far {a b : Pc} (ha : PcS a) (hb : PcS b) : ∃ q : Pc, (q = a ∨ q = b) ∧ q.r = lnG [a, b] ∧ ∀ t : Int, 12 ≤ t → lnF [a, b] t = q.at t := by
  have e1 : lnG [a, b] = min a.r b.r := by
    obtain ⟨⟨q, h, e⟩, l⟩ := minOf_is Pc.r (l := [a, b]) (by simp)
    have x := l a (by simp)
    have y := l b (by simp)
    simp only [List.mem_cons, List.not_mem_nil, or_false] at h
    unfold lnG
    rcases h with rfl | rfl <;> omega
  have e2 : ∀ t : Int, 12 ≤ t → lnF [a, b] t = min (a.at t) (b.at t) := fun t ht => by
    rw [lnF_pos (by omega)]
    obtain ⟨⟨q, h, e⟩, l⟩ := minOf_is (fun q : Pc => q.at t) (l := [a, b]) (by simp)
    have x := l a (by simp)
    have y := l b (by simp)
    simp only [List.mem_cons, List.not_mem_nil, or_false] at h
    rcases h with rfl | rfl <;> omega
  have key : ∀ c d : Pc, PcS c → PcS d → c.r < d.r → ∀ t : Int, 12 ≤ t → c.at t ≤ d.at t := fun c d hc hd lt t ht => by
    rw [hc.ok.at_eq, hd.ok.at_eq]
    have b1 := hc.b3
    have b2 := hd.b0
    have h3 : c.r + 3 ≤ d.r := by rcases hc.r_ with z | z | z | z | z <;> rcases hd.r_ with y | y | y | y | y <;> omega
    have m := Int.mul_le_mul_of_nonneg_right h3 (show 0 ≤ t by omega)
    rw [Int.add_mul] at m
    omega
  rcases (show a.r < b.r ∨ b.r < a.r ∨ a.r = b.r by omega) with c | c | c
  · exact ⟨a, .inl rfl, by omega, fun t ht => by rw [e2 t ht]; have := key a b ha hb c t ht; omega⟩
  · exact ⟨b, .inr rfl, by omega, fun t ht => by rw [e2 t ht]; have := key b a hb ha c t ht; omega⟩
  · by_cases d : a.b ≤ b.b
    · refine ⟨a, .inl rfl, by omega, fun t ht => ?_⟩
      rw [e2 t ht, ha.ok.at_eq, hb.ok.at_eq, c]
      omega
    · refine ⟨b, .inr rfl, by omega, fun t ht => ?_⟩
      rw [e2 t ht, ha.ok.at_eq, hb.ok.at_eq, c]
      omega
theorem two_rep {a b : Pc} (ha : PcS a) (hb : PcS b) : Rep (lnF [a, b]) 24 12 (lnG [a, b]) := fun t ht => by
  obtain ⟨q, hq, hr, h⟩ := two_far ha hb
  have ok : q.Ok := hq.elim (fun z => z ▸ ha.ok) (fun z => z ▸ hb.ok)
  rw [h t (by omega), h (t - 12) (by omega), ← hr]
  have := ok.far (t - 12)
  rw [show t - 12 + 12 = t by omega] at this
  exact this
theorem Fit.lines {a b : Pc} {e1 e2 s : Int} (ha : PcS a) (hb : PcS b) : Fit e1 e2 s (lnF [a, b]) := by
  obtain ⟨q, hq, hr, h⟩ := two_far ha hb
  have ok : PcS q := hq.elim (fun z => z ▸ ha) (fun z => z ▸ hb)
  refine ⟨lnG [a, b], (two_rep ha hb).weak (by decide), .inr ?_⟩
  unfold off
  rw [h 900 (by decide), ← hr, ok.ok.at_eq]
  have := ok.b0
  have := ok.b3
  omega
theorem fm_short {F : Int → Int} {n k : Nat} {G : Int} (R : Rep F n 12 G) (hn : 12 ≤ n) (F0 : F 0 = 0) (hk : 12 ≤ k) (S : Rep F k 12 G) : (formV (vals F n) 12 G).length ≤ k := by
  have h12 : (12 : Int) ≤ (vals F n).length := by rw [vals_length]; omega
  have FV := fm_vals R hn F0
  have RR : Rep (cvAt (vals F n) 12 G) (vals F n).length 12 G := Rep.cvAt (by decide) h12
  obtain ⟨a1, a2, a3⟩ := leastP_spec RR (by decide)
  have S2 : Rep (cvAt (vals F n) 12 G) k 12 G := S.congr (fun t ht => (FV t ht).symm) (by decide) (by omega)
  have S3 := per_now S2 (by decide) a3 a1 a2
  have u := shr_uniq (m := (vals F n).length) (k := k) a1 (by omega) (by omega) a3 S3
  obtain ⟨_, b2, _⟩ := shr_spec a1 k (by omega) S3
  unfold formV
  rw [vals_length]
  show shr _ _ _ _ ≤ k
  exact Nat.le_trans (Nat.le_of_eq u) b2
theorem two_short {a b : Pc} (ha : PcS a) (hb : PcS b) : (formV (vals (lnF [a, b]) (lnN [a, b]).toNat) 12 (lnG [a, b])).length ≤ 24 := by
  have ne : [a, b] ≠ [] := by simp
  have ok : ∀ q ∈ [a, b], q.Ok := fun q hq => by
    simp only [List.mem_cons, List.not_mem_nil, or_false] at hq
    exact hq.elim (fun z => z ▸ ha.ok) (fun z => z ▸ hb.ok)
  have nb := lnN_b ne ok
  refine fm_short (k := 24) ?_ (by omega) lnF_zero (by decide) (two_rep ha hb)
  rw [Int.toNat_of_nonneg (by omega)]
  exact ln_rep ne ok
theorem Fit.tight {us : List Int} {e1 e2 s : Int} (N : ∀ u ∈ us, 0 ≤ u) (hl : us.length ≤ 5) (hs : us.sum ≤ 10) : Fit e1 e2 s (tF us) := by
  have z : ∀ t : Int, 5 ≤ t → tF us t = us.sum := fun t ht => by unfold tF; exact most_far (by omega)
  refine ⟨0, fun t ht => by rw [z t (by omega), z (t - 12) (by omega)]; omega, .inr ?_⟩
  unfold off
  rw [z 900 (by decide)]
  have : 0 ≤ us.sum := by
    have := most_nn N us.length
    rwa [most_far (Nat.le_refl _)] at this
  omega
theorem sum_le2 : ∀ {us : List Int}, (∀ u ∈ us, u ≤ 2) → us.sum ≤ 2 * (us.length : Int)
  | [], _ => by simp
  | a :: l, h => by
    have := sum_le2 (us := l) fun u hu => h u (List.mem_cons_of_mem _ hu)
    have := h a (List.mem_cons_self ..)
    rw [List.sum_cons, List.length_cons]
    omega
/-! ### rows of values -/
theorem vals_take {f : Int → Int} {n m : Nat} (h : m ≤ n) : (vals f n).take m = vals f m := by
  unfold vals
  rw [← List.map_take, List.take_range, Nat.min_eq_left h]
theorem vals_eq {f h : Int → Int} {n : Nat} (e : ∀ t : Int, 1 ≤ t → t ≤ n → f t = h t) : vals f n = vals h n := by
  unfold vals
  refine List.map_congr_left fun i hi => ?_
  have := List.mem_range.mp hi
  exact e _ (by omega) (by omega)
theorem vals_inj {f h : Int → Int} {n : Nat} (e : vals f n = vals h n) : ∀ t : Int, 1 ≤ t → t ≤ n → f t = h t := fun t h1 h2 => by
  have this : (vals f n).getD (t - 1).toNat 0 = (vals h n).getD (t - 1).toNat 0 := by rw [e]
  rw [vals_getD (by omega), vals_getD (by omega), show ((t - 1).toNat : Int) + 1 = t by omega] at this
  exact this
theorem tight_vals {us : List Int} (h : us.length ≤ 5) : ((vals (tF us) us.length) ++ List.replicate 900 (us.sum)).take 900 = vals (tF us) 900 := by
  have e : List.replicate 900 us.sum = (List.range 900).map fun i => tF us ((us.length + i : Nat) + 1) := by
    apply List.ext_getElem (by simp)
    intro i h1 h2
    rw [List.getElem_replicate, List.getElem_map, List.getElem_range]
    unfold tF
    exact (most_far (by omega)).symm
  have e2 : vals (tF us) us.length ++ List.replicate 900 us.sum = vals (tF us) (us.length + 900) := by
    rw [e]
    unfold vals
    rw [List.range_add, List.map_append, List.map_map]
    rfl
  rw [e2, vals_take (by omega)]
end VM

/-! Numbers that change at ticks: a first value and steps. -/
namespace VM
def atF (c : Int) : List (Int × Int) → Int → Int
  | [], _ => c
  | (s, a) :: r, t => atF (if s ≤ t then a else c) r t
/-- the last value that the ticks so far tell -/
theorem atF_filter (c : Int) (t : Int) : ∀ S : List (Int × Int), atF c S t = ((c :: (S.filter fun z => decide (z.1 ≤ t)).map (·.2)).getLast (by simp)) := by
  intro S
  induction S generalizing c with
  | nil => rfl
  | cons z S ih =>
    obtain ⟨s, a⟩ := z
    show atF (if s ≤ t then a else c) S t = _
    rw [ih]
    by_cases h : s ≤ t
    · simp [List.filter_cons, h]
    · simp [List.filter_cons, h]
def Srt : Int → List (Int × Int) → Prop
  | _, [] => True
  | b, (s, _) :: r => b < s ∧ Srt s r
theorem Srt.weak : ∀ {S : List (Int × Int)} {b c : Int}, c ≤ b → Srt b S → Srt c S
  | [], _, _, _, _ => trivial
  | (s, a) :: r, b, c, h, ⟨h1, h2⟩ => ⟨by omega, h2⟩
theorem Srt.push : ∀ {S : List (Int × Int)} {b : Int} {s a : Int}, Srt b S → (∀ z ∈ S, z.1 < s) → b < s → Srt b (S ++ [(s, a)])
  | [], b, s, a, _, _, h => ⟨h, trivial⟩
  | (q, e) :: r, b, s, a, ⟨h1, h2⟩, h, _ => ⟨h1, Srt.push h2 (fun z hz => h z (List.mem_cons_of_mem _ hz)) (h (q, e) (List.mem_cons_self ..))⟩
theorem Srt.gt : ∀ {S : List (Int × Int)} {b : Int}, Srt b S → ∀ z ∈ S, b < z.1
  | [], _, _, z, hz => by cases hz
  | (q, e) :: r, b, ⟨h1, h2⟩, z, hz => by
    rcases List.mem_cons.mp hz with rfl | hz
    · exact h1
    · have := Srt.gt h2 z hz; omega
theorem Srt.left : ∀ {S R : List (Int × Int)} {b : Int}, Srt b (S ++ R) → Srt b S
  | [], _, _, _ => trivial
  | (q, e) :: r, R, b, ⟨h1, h2⟩ => ⟨h1, Srt.left h2⟩
theorem Srt.right : ∀ {S R : List (Int × Int)} {b : Int}, Srt b (S ++ R) → Srt b R
  | [], _, _, h => h
  | (q, e) :: r, R, b, ⟨h1, h2⟩ => Srt.weak (by omega) (Srt.right h2)
theorem Srt.mid {S R : List (Int × Int)} {b s a : Int} (h : Srt b (S ++ (s, a) :: R)) : Srt s R ∧ b < s ∧ ∀ z ∈ S, z.1 < s := by
  induction S generalizing b with
  | nil => exact ⟨h.2, h.1, fun z hz => by cases hz⟩
  | cons q S ih =>
    obtain ⟨h1, h2⟩ := h
    obtain ⟨i1, i2, i3⟩ := ih h2
    refine ⟨i1, by omega, fun z hz => ?_⟩
    rcases List.mem_cons.mp hz with rfl | hz
    · exact i2
    · exact i3 z hz
theorem Srt.drop1 {S R : List (Int × Int)} {b s a : Int} (h : Srt b (S ++ (s, a) :: R)) : Srt b (S ++ R) := by
  induction S generalizing b with
  | nil => exact h.2.weak (Int.le_of_lt h.1)
  | cons q S ih => exact ⟨h.1, ih h.2⟩
theorem Srt.swap {S R : List (Int × Int)} {b s a e : Int} (h : Srt b (S ++ (s, a) :: R)) : Srt b (S ++ (s, e) :: R) := by
  induction S generalizing b with
  | nil => exact h
  | cons q S ih => exact ⟨h.1, ih h.2⟩
theorem atF_low {S : List (Int × Int)} : ∀ {b c t : Int}, Srt b S → t ≤ b → atF c S t = c := by
  induction S with
  | nil => intros; rfl
  | cons z S ih =>
    obtain ⟨s, a⟩ := z
    intro b c t ⟨h1, h2⟩ ht
    show atF (if s ≤ t then a else c) S t = c
    rw [if_neg (by omega)]
    exact ih h2 (by omega)
theorem atF_app (c : Int) (S R : List (Int × Int)) (t : Int) : atF c (S ++ R) t = atF (atF c S t) R t := by
  induction S generalizing c with
  | nil => rfl
  | cons z S ih => obtain ⟨s, a⟩ := z; exact ih _
/-- the steps that change something -/
def keptS : Int → List (Int × Int) → List (Int × Int)
  | _, [] => []
  | c, (s, a) :: r => if a ≠ c then (s, a) :: keptS a r else keptS a r
theorem keptS_srt {S : List (Int × Int)} : ∀ {b c : Int}, Srt b S → Srt b (keptS c S) := by
  induction S with
  | nil => intros; trivial
  | cons z S ih =>
    obtain ⟨s, a⟩ := z
    intro b c ⟨h1, h2⟩
    unfold keptS
    split
    · exact ⟨h1, ih h2⟩
    · exact (ih h2).weak (Int.le_of_lt h1)
theorem keptS_at {S : List (Int × Int)} : ∀ {b c : Int}, Srt b S → ∀ t, atF c (keptS c S) t = atF c S t := by
  induction S with
  | nil => intros; rfl
  | cons z S ih =>
    obtain ⟨s, a⟩ := z
    intro b c ⟨h1, h2⟩ t
    unfold keptS
    split
    · show atF (if s ≤ t then a else c) (keptS a S) t = atF (if s ≤ t then a else c) S t
      by_cases q : s ≤ t
      · rw [if_pos q]; exact ih h2 t
      · rw [if_neg q, atF_low (keptS_srt h2) (by omega), atF_low h2 (by omega)]
    · rename_i h
      have h : a = c := by simpa using h
      subst h
      show _ = atF (if s ≤ t then a else a) S t
      rw [ite_self]
      exact ih h2 t
theorem keptS_mem {S : List (Int × Int)} : ∀ {c : Int}, ∀ z ∈ keptS c S, z ∈ S := by
  induction S with
  | nil => intro c z h; cases h
  | cons q S ih =>
    obtain ⟨s, a⟩ := q
    intro c z h
    unfold keptS at h
    split at h
    · rcases List.mem_cons.mp h with rfl | h
      · exact List.mem_cons_self ..
      · exact List.mem_cons_of_mem _ (ih z h)
    · exact List.mem_cons_of_mem _ (ih z h)
theorem keptS_len {S : List (Int × Int)} : ∀ {c : Int}, (keptS c S).length ≤ S.length := by
  induction S with
  | nil => intro c; exact Nat.le_refl _
  | cons q S ih =>
    obtain ⟨s, a⟩ := q
    intro c
    unfold keptS
    split
    · simp only [List.length_cons]; have := ih (c := a); omega
    · simp only [List.length_cons]; have := ih (c := a); omega
/-- the value behind the steps so far -/
def lastV (c : Int) : List (Int × Int) → Int
  | [] => c
  | (_, a) :: r => lastV a r
def lastT (b : Int) : List (Int × Int) → Int
  | [] => b
  | (s, _) :: r => lastT s r
theorem lastV_push (c : Int) (S : List (Int × Int)) (s a : Int) : lastV c (S ++ [(s, a)]) = a := by
  induction S generalizing c with
  | nil => rfl
  | cons z S ih => exact ih _
theorem lastT_push (b : Int) (S : List (Int × Int)) (s a : Int) : lastT b (S ++ [(s, a)]) = s := by
  induction S generalizing b with
  | nil => rfl
  | cons z S ih => exact ih _
theorem keptS_app (c : Int) (S R : List (Int × Int)) : keptS c (S ++ R) = keptS c S ++ keptS (lastV c S) R := by
  induction S generalizing c with
  | nil => rfl
  | cons z S ih =>
    obtain ⟨s, a⟩ := z
    show keptS c ((s, a) :: (S ++ R)) = keptS c ((s, a) :: S) ++ keptS (lastV a S) R
    by_cases h : a = c
    · simp only [keptS, h, ne_eq, not_true_eq_false, if_false, ih]
    · simp only [keptS, ne_eq, h, not_false_eq_true, if_true, ih, List.cons_append]
theorem at_last {S : List (Int × Int)} : ∀ {b c t : Int}, Srt b S → lastT b S ≤ t → atF c S t = lastV c S := by
  induction S with
  | nil => intros; rfl
  | cons z S ih =>
    obtain ⟨s, a⟩ := z
    intro b c t ⟨h1, h2⟩ ht
    have hs : s ≤ lastT s S := by
      clear ih ht h1
      induction S generalizing s a with
      | nil => exact Int.le_refl _
      | cons q S ih2 =>
        obtain ⟨u, v⟩ := q
        have := ih2 u v h2.2
        show s ≤ lastT u S
        have := h2.1
        omega
    show atF (if s ≤ t then a else c) S t = lastV a S
    rw [if_pos (show s ≤ t from Int.le_trans hs ht)]
    exact ih h2 ht
theorem lastT_ge {S : List (Int × Int)} : ∀ {b : Int}, Srt b S → b ≤ lastT b S := by
  induction S with
  | nil => intro b _; exact Int.le_refl _
  | cons z S ih =>
    obtain ⟨s, a⟩ := z
    intro b ⟨h1, h2⟩
    have := ih h2
    show b ≤ lastT s S
    omega
/-- steps that all change something -/
def Rd : Int → List (Int × Int) → Prop
  | _, [] => True
  | c, (_, a) :: r => a ≠ c ∧ Rd a r
theorem keptS_rd {S : List (Int × Int)} : ∀ {c : Int}, Rd c (keptS c S) := by
  induction S with
  | nil => intro c; trivial
  | cons z S ih =>
    obtain ⟨s, a⟩ := z
    intro c
    unfold keptS
    split
    · rename_i h; exact ⟨h, ih⟩
    · rename_i h
      have h : a = c := by simpa using h
      subst h
      exact ih
theorem rd_uniq : ∀ {R S : List (Int × Int)} {b c : Int}, Srt b R → Srt b S → Rd c R → Rd c S → (∀ t, b ≤ t → atF c R t = atF c S t) → R = S
  | [], [], _, _, _, _, _, _, _ => rfl
  | [], (s, a) :: S, b, c, _, ⟨h1, h2⟩, _, ⟨r1, _⟩, e => by
    have := e s (by omega)
    have q : atF c ((s, a) :: S) s = a := by
      show atF (if s ≤ s then a else c) S s = a
      rw [if_pos (Int.le_refl _)]
      exact atF_low h2 (Int.le_refl _)
    rw [q] at this
    exact absurd this.symm r1
  | (s, a) :: R, [], b, c, ⟨h1, h2⟩, _, ⟨r1, _⟩, _, e => by
    have := e s (by omega)
    have q : atF c ((s, a) :: R) s = a := by
      show atF (if s ≤ s then a else c) R s = a
      rw [if_pos (Int.le_refl _)]
      exact atF_low h2 (Int.le_refl _)
    rw [q] at this
    exact absurd this r1
  | (s, a) :: R, (u, d) :: S, b, c, ⟨h1, h2⟩, ⟨k1, k2⟩, ⟨r1, r2⟩, ⟨q1, q2⟩, e => by
    have ea : ∀ (s a : Int) (R : List (Int × Int)), Srt s R → atF c ((s, a) :: R) s = a := fun s a R h => by
      show atF (if s ≤ s then a else c) R s = a
      rw [if_pos (Int.le_refl _)]
      exact atF_low h (Int.le_refl _)
    have el : ∀ (s a : Int) (R : List (Int × Int)) (t : Int), Srt s R → t < s → atF c ((s, a) :: R) t = c := fun s a R t h ht => by
      show atF (if s ≤ t then a else c) R t = c
      rw [if_neg (by omega)]
      exact atF_low h (by omega)
    have su : s = u := by
      rcases Int.lt_trichotomy s u with l | l | l
      · have := e s (by omega)
        rw [ea s a R h2, el u d S s k2 l] at this
        exact absurd this r1
      · exact l
      · have := e u (by omega)
        rw [ea u d S k2, el s a R u h2 l] at this
        exact absurd this.symm q1
    subst su
    have ad : a = d := by
      have := e s (by omega)
      rwa [ea s a R h2, ea s d S k2] at this
    subst ad
    have := rd_uniq h2 k2 r2 q2 fun t ht => by
      have := e t (by omega)
      have x : ∀ R : List (Int × Int), atF c ((s, a) :: R) t = atF a R t := fun R => by
        show atF (if s ≤ t then a else c) R t = _
        rw [if_pos ht]
      rwa [x, x] at this
    rw [this]
/-- between its ticks it stands: what it is at t is what it is at 0 or at a tick of its own up to t -/
theorem at_tick {S : List (Int × Int)} : ∀ {b c : Int}, Srt b S → ∀ t, b ≤ t → ∀ u, b ≤ u → u ≤ t → (∀ z ∈ S, z.1 ≤ t → z.1 ≤ u) → atF c S u = atF c S t := by
  induction S with
  | nil => intros; rfl
  | cons z S ih =>
    obtain ⟨s, a⟩ := z
    intro b c ⟨h1, h2⟩ t ht u hu hut hz
    show atF (if s ≤ u then a else c) S u = atF (if s ≤ t then a else c) S t
    by_cases q : s ≤ t
    · have := hz (s, a) (List.mem_cons_self ..) q
      rw [if_pos q, if_pos this]
      exact ih h2 t q u this hut fun z hz' => hz z (List.mem_cons_of_mem _ hz')
    · rw [if_neg q, if_neg (by omega), atF_low h2 (by omega), atF_low h2 (by omega)]
/-- the same at 0 and at all ticks of both is the same at all -/
theorem same_at {S R : List (Int × Int)} {c d : Int} (hS : Srt 0 S) (hR : Srt 0 R) (h0 : atF c S 0 = atF d R 0) (h : ∀ z ∈ S ++ R, atF c S z.1 = atF d R z.1) : ∀ t, 0 ≤ t → atF c S t = atF d R t := by
  intro t ht
  -- the last of 0 and all ticks up to t
  have ex : ∀ L : List (Int × Int), (∀ z ∈ L, 0 < z.1) → ∃ u, 0 ≤ u ∧ u ≤ t ∧ (u = 0 ∨ ∃ z ∈ L, z.1 = u) ∧ ∀ z ∈ L, z.1 ≤ t → z.1 ≤ u := by
    intro L
    induction L with
    | nil => exact fun _ => ⟨0, Int.le_refl _, ht, .inl rfl, fun z hz => by cases hz⟩
    | cons q L ih =>
      intro hp
      obtain ⟨u, u0, ut, uz, hu⟩ := ih fun z hz => hp z (List.mem_cons_of_mem _ hz)
      by_cases k : q.1 ≤ t ∧ u < q.1
      · refine ⟨q.1, by omega, k.1, .inr ⟨q, List.mem_cons_self .., rfl⟩, fun z hz hz2 => ?_⟩
        rcases List.mem_cons.mp hz with rfl | hz
        · exact Int.le_refl _
        · have := hu z hz hz2; omega
      · refine ⟨u, u0, ut, ?_, fun z hz hz2 => ?_⟩
        · rcases uz with uz | ⟨z, hz, e⟩
          · exact .inl uz
          · exact .inr ⟨z, List.mem_cons_of_mem _ hz, e⟩
        · rcases List.mem_cons.mp hz with rfl | hz
          · omega
          · exact hu z hz hz2
  obtain ⟨u, u0, ut, uz, hu⟩ := ex (S ++ R) fun z hz => (List.mem_append.mp hz).elim (fun h => hS.gt z h) (fun h => hR.gt z h)
  have a := at_tick (c := c) hS t ht u u0 ut fun z hz => hu z (List.mem_append_left _ hz)
  have b := at_tick (c := d) hR t ht u u0 ut fun z hz => hu z (List.mem_append_right _ hz)
  rw [← a, ← b]
  rcases uz with rfl | ⟨z, hz, rfl⟩
  · exact h0
  · exact h z hz
theorem kept_iff_at {S R : List (Int × Int)} {c d : Int} (hS : Srt 0 S) (hR : Srt 0 R) : (c = d ∧ keptS c S = keptS d R) ↔ (atF c S 0 = atF d R 0 ∧ ∀ z ∈ S ++ R, atF c S z.1 = atF d R z.1) := by
  constructor
  · rintro ⟨rfl, e⟩
    have q : ∀ t, atF c S t = atF c R t := fun t => by rw [← keptS_at hS, ← keptS_at hR, e]
    exact ⟨q 0, fun z _ => q _⟩
  · rintro ⟨h0, h⟩
    have e := same_at hS hR h0 h
    have cd : c = d := by
      have := e 0 (Int.le_refl _)
      rwa [atF_low hS (Int.le_refl _), atF_low hR (Int.le_refl _)] at this
    subst cd
    exact ⟨rfl, rd_uniq (keptS_srt hS) (keptS_srt hR) keptS_rd keptS_rd fun t ht => by rw [keptS_at hS, keptS_at hR]; exact e t ht⟩
/-- sums of the values of the ticks before -/
def PS (f : Int → Int) : Nat → Int
  | 0 => 0
  | n + 1 => PS f n + f n
def rowP (f : Int → Int) (n : Nat) : List Int := (List.range n).map (PS f)
theorem rowP_length {f : Int → Int} {n : Nat} : (rowP f n).length = n := by unfold rowP; simp
theorem rowP_succ {f : Int → Int} {n : Nat} : rowP f (n + 1) = rowP f n ++ [PS f n] := by
  unfold rowP
  rw [List.range_succ, List.map_append]
  rfl
theorem rowP_getD {f : Int → Int} {n i : Nat} (h : i < n) : (rowP f n).getD i 0 = PS f i := by
  unfold rowP
  rw [List.getD_eq_getElem?_getD, List.getElem?_map, List.getElem?_range h]
  rfl
theorem PS_far {f : Int → Int} {v : Int} {l : Nat} (h : ∀ t : Int, (l : Int) ≤ t → f t = v) (d : Nat) : PS f (l + d) = PS f l + d * v := by
  induction d with
  | zero => simp
  | succ d ih =>
    show PS f (l + d) + f ((l + d : Nat) : Int) = _
    rw [ih, h _ (by omega), show ((d + 1 : Nat) : Int) = (d : Int) + 1 by omega, Int.add_mul, Int.one_mul]
    omega
theorem PS_congr {f g : Int → Int} {n : Nat} (h : ∀ t : Int, 0 ≤ t → t < n → f t = g t) : PS f n = PS g n := by
  induction n with
  | zero => rfl
  | succ n ih =>
    show PS f n + f n = PS g n + g n
    rw [ih fun t h1 h2 => h t h1 (by omega), h n (by omega) (by omega)]
theorem PS_sum {f : Int → Int} (a : Nat) : ∀ d : Nat, ((List.range d).map fun i : Nat => f ((a : Int) + i)).sum = PS f (a + d) - PS f a
  | 0 => by simp
  | d + 1 => by
    rw [List.range_succ, List.map_append, List.sum_append, PS_sum a d]
    show _ = PS f (a + d) + f ((a + d : Nat) : Int) - PS f a
    rw [show ((a + d : Nat) : Int) = (a : Int) + d by omega]
    simp
    omega
end VM

/-! Positional defaults beside keywords; a loop over a list or a tuple. -/
namespace VD
open PySem PySem.Spec PyProof.Rows L2
section
variable {K : PySem.W.Frag} {x qual : Str} {params : Arguments} {body : List Stmt} {scope : Scope} {dvs : List V} {f : Addr} {fd : FuncData} {ps : List Str}
/-- f(e, .., k = v, ..) of a def with positional defaults alone: n positional values, keywords named ks -/
theorem kbinds1 (F : FunD K x qual params body scope dvs [] f fd) (n : Nat) (ks : List Str) (g : {α : Type} → List α → List α → List α → List α) (hd : dvs ≠ [])
    (hrel : ∀ {vs ds zs : List V} {us its ws : List Value}, Vals vs us → Vals ds its → Vals zs ws → Vals (g vs ds zs) (g us its ws))
    (h : ∀ (T : Addr) (kV doc pm : Value) (an : Option Addr) (cdv ct : Value) (us its ws : List Value), us.length = n → its.length = dvs.length → ws.length = ks.length →
      ∃ k, bindArgs (PySem.W.fnOf x qual params body scope (.ref T) kV doc pm an cdv ct) ⟨us, ks.zip ws⟩ = seqItems? (.ref T) >>= k ∧ k (some its.toArray) = pure (ps.zip (g us its ws))) :
    ∃ its : List Value, KBn K fd ps n ks (fun us ws => g us its ws) (fun vs zs => g vs dvs zs) := by
  obtain ⟨oc, od, dV, kV, doc, pm, an, cdv, ct, osl, rfl, lk, hcd, hD, hK⟩ := F.ex
  rcases hD with ⟨e, _⟩ | ⟨_, T, o, its, m, rfl, lT, oT, rT⟩
  · exact absurd e hd
  · refine ⟨its, ⟨fun s us ws X l1 l2 => ?_, fun r1 r2 => hrel r1 rT r2⟩⟩
    obtain ⟨k, e1, e2⟩ := h T kV doc pm an cdv ct us its ws l1 rT.length.symm l2
    refine BindsTo.of_looks fun M => ?_
    rw [e1]
    exact looks_items X lT oT (.of_pure e2)
end
/-- one way to go round, or another -/
theorem pi_or {X : Cx} {tg it : Expr} {t1 t2 : TI} (p : PI X tg it t1) (q : PI X tg it t2) : PI X tg it (fun σ H R => t1 σ H R ∨ t2 σ H R) :=
  ⟨fun pins s σ H R I h => h.elim (p.run pins s σ H R I) (q.run pins s σ H R I)⟩
theorem op_or {X : Cx} {o : Value → Value → Sem Value} {r1 r2 : R2} (p : OpR X o r1) (q : OpR X o r2) : OpR X o (fun x y H Q => r1 x y H Q ∨ r2 x y H Q) := by
  intro pins s σ H x y v u Q I rx ry h
  exact h.elim (p pins s σ H x y v u Q I rx ry) (q pins s σ H x y v u Q I rx ry)
theorem Same.seqT {K : PySem.W.Frag} {H H' : Hp} {a : Addr} {xs : List V} (e : Same H H') (h : SqT K H a xs) : SqT K H' a xs := by
  rcases h with (h | ⟨o, h⟩) | h
  · exact .inl (.inl (e _ _ h))
  · exact .inl (.inr ⟨o, e _ _ h⟩)
  · exact .inr h
/-- a list or a tuple -/
def SqB (K : PySem.W.Frag) (H : Hp) (a : Addr) (xs : List V) : Prop := SqL K H a xs ∨ SqT K H a xs
theorem SqB.same {K : PySem.W.Frag} {H H' : Hp} {a : Addr} {xs : List V} (h : SqB K H a xs) (e : Same H H') : SqB K H' a xs := h.imp e.seq (Same.seqT e)
theorem tfor_sq {K : PySem.W.Frag} {tl : TE} {g : TG} {tb : TS} {D : Ends} {σ : L2.St} {H0 H : Hp} {a : Addr} {xs : List V} (hq : SqB K H0 a xs) (s0 : Same H0 H) (he : ∀ Q : VK, Q (.ref a) H → tl σ H Q)
    (Pv : Nat → L2.St → Hp → Prop) (h0 : Pv 0 σ H) (hsame : ∀ i σ H', Pv i σ H' → Same H0 H')
    (hs : ∀ i x σ H, xs[i]? = some x → Pv i σ H → g x σ H fun σ2 H2 => tb { D with nx := Pv (i + 1), ct := Pv (i + 1), bk := D.nx } σ2 H2) (hd : ∀ σ H, Pv xs.length σ H → D.nx σ H) :
    tFor (fun σ H R => iList K tl σ H R ∨ iTup K tl σ H R) g tb D σ H := by
  rcases hq with h | h
  · exact .inl (he _ ⟨a, rfl, ⟨xs, s0.seq h⟩, for_list Pv h0 (fun i σ H' _ p => (hsame i σ H' p).seq h) hs hd⟩)
  · exact .inr (he _ ⟨a, rfl, ⟨xs, Same.seqT s0 h⟩, for_tup Pv h0 (fun i σ H' _ p => Same.seqT (hsame i σ H' p) h) hs hd⟩)
theorem tfor_en {K : PySem.W.Frag} {tl : TE} {g : TG} {tb : TS} {D : Ends} {σ : L2.St} {H0 H : Hp} {a : Addr} {xs : List V} (hq : SqB K H0 a xs) (s0 : Same H0 H) (he : ∀ Q : VK, Q (.ref a) H → tl σ H Q)
    (Pv : Nat → L2.St → Hp → Prop) (h0 : Pv 0 σ H) (hsame : ∀ i σ H', Pv i σ H' → Same H0 H')
    (hs : ∀ i y σ H T H', xs[i]? = some y → Pv i σ H → H T = none → H' = upd H T (.tup [.int (i : Nat), y]) → g (.ref T) σ H' fun σ2 H2 => tb { D with nx := Pv (i + 1), ct := Pv (i + 1), bk := D.nx } σ2 H2) (hd : ∀ σ H, Pv xs.length σ H → D.nx σ H) :
    tFor (fun σ H R => iEnum K (tCons tl tNil) σ H R ∨ VE.iEnumT K (tCons tl tNil) 0 σ H R) g tb D σ H := by
  rcases hq with h | h
  · exact .inl (he _ ⟨a, xs, rfl, s0.seq h, for_it (walk_enum (K := K) (a := a) (xs := xs)) Pv h0 (fun i σ H' _ p => (hsame i σ H' p).seq h) (fun i x σ H H' hi p ⟨T, u, v, e1, hT, e2, ea, eb⟩ => by
      cases ea
      subst e1
      exact hs i v σ H T H' eb p hT e2) hd⟩)
  · exact .inr (he _ ⟨a, xs, rfl, Same.seqT s0 h, for_it (VE.walk_enumT (K := K) (a := a) (xs := xs) (k := 0)) Pv h0 (fun i σ H' _ p => Same.seqT (hsame i σ H' p) h) (fun i x σ H H' hi p ⟨T, u, v, e1, hT, e2, ea, eb⟩ => by
      cases ea
      subst e1
      rw [Int.zero_add] at e2
      exact hs i v σ H T H' eb p hT e2) hd⟩)

def tMethKw0 (C : Addr) (m : Str) (j : Nat) (sp : Sp) (gV : List V → List V → List V) (E : XK) (ta : TE) (tk : TA) : TE := fun σ H Q =>
  ta σ H fun x H1 => ∃ a dx fs, x = .ref a ∧ H1 a = some (.ins C dx fs) ∧ fs.lookup m = none ∧ tk σ H1 fun zs H3 => zs.length = j ∧ sp (gV [x] zs) H3 Q E
theorem pe_methKw0 {X : Cx} {CX : CXT} {k : Nat} {f C : Addr} {fd : FuncData} {ps ks : List Str} {sp : Sp} {E : XK} {m : Str} {pos apos : Pos} {o : Expr} {kws : List Keyword} {ta : TE} {tk : TA}
    {g : List Value → List Value → List Value} {gV : List V → List V → List V} {pl : Sem Bool}
    (he : PE X o ta) (c : Cls X.K C) (hm : Meth X.K C m f) (F : FnOk X.prog X.w X.K X.mg X.base CX k f fd ps sp) (hr : Room k X.A)
    (hb : KBn X.K fd ps 1 ks g gV) (hx : Passes CX X E) (hkw : PK X kws tk)
    (hall : (backToKw pos (keywordEach kws X.env)).all (·.1.isSome) = true := by rfl) (hks : (backToKw pos (keywordEach kws X.env)).filterMap (·.1) = ks := by rfl)
    (hpl : ((backTo pos (starEach [] X.env)).any (·.1) || (backToKw pos (keywordEach kws X.env)).any (·.1.isNone)) = false := by rfl)
    (ht : eval (.Call (.Attribute o m apos) [] kws pos) X.env = (do
      let ov ← eval o X.env
      standAt apos.atName
      let (f, first) ← holding [ov] (getMethod ov m pl)
      callWith pos f first (backTo pos (starEach [] X.env)) (backToKw pos (keywordEach kws X.env))) := by rfl) :
    PE X (.Call (.Attribute o m apos) [] kws pos) (tMethKw0 C m ks.length sp gV E ta tk) := by
  constructor
  intro pins s σ H Q I h
  refine PySem.W.methodCall_KW (pl := pl) (thn (he.run pins s σ H _ I h) ?_) ht
  rintro u s1 ⟨x, H1, I1, rx, a, dx, fs, ex, ea, l, q⟩
  subst ex
  obtain rfl : u = Value.ref a := rx
  refine getmeth_ok I1 ea c hm l ?_
  refine PySem.W.callWith_KW0 (first := [.ref a]) (h₀ := X.base) I1.ok.mod.kin hm.kp hall ?_ hpl
  refine thn (hkw.run pos pins s1 σ H1 _ I1 q) ?_
  rintro ws s3 ⟨zs, H3, I3, rz, l2, q3⟩
  refine ⟨I3.kIn, ?_⟩
  rw [hks]
  have r1 : Vals [V.ref a] [Value.ref a] := .cons rfl .nil
  have rel := hb.rel r1 rz
  have bind := hb.to s3 [Value.ref a] ws I3.kIn rfl (rz.length.symm.trans l2)
  show wpAny _ _ (call (.ref f) [Value.ref a] (ks.zip ws)) _ _ _
  refine wpAny_call (codeAny_mono (F.run X.A X.stack s3 H3 ⟨[Value.ref a], ks.zip ws⟩ _ _ Q E hr I3.env0 bind rel q3) ?_)
  intro res s' hq
  match res, hq with
  | .error e, hq => exact hx pins σ H3 s3 e s' I3 hq
  | .ok (.ret u), hq => exact I3.after hq
  | .ok .next, hq => exact False.elim hq
  | .ok .brk, hq => exact False.elim hq
  | .ok .cont, hq => exact False.elim hq
end VD

namespace VK
open PySem PySem.Spec PyProof.Rows L2 VM
def top (i : Nat) : Stmt := PySem.Challenge.pw_dueways_k38_supplies_tick_by_tick.main.body.getD i (.Pass ⟨0, 0, 0, 0⟩)
abbrev s_is_integer : Stmt := top 7
theorem sc_is_integer : FnScope ["value"] ["value"] (defScope s_is_integer) := ⟨rfl, rfl, rfl, by decide +kernel, rfl, by decide +kernel, by decide +kernel⟩
abbrev s_is_count : Stmt := top 8
theorem sc_is_count : FnScope ["value"] ["value"] (defScope s_is_count) := ⟨rfl, rfl, rfl, by decide +kernel, rfl, by decide +kernel, by decide +kernel⟩
abbrev s_is_count_to : Stmt := top 9
theorem sc_is_count_to : FnScope ["value", "most"] ["value", "most"] (defScope s_is_count_to) := ⟨rfl, rfl, rfl, by decide +kernel, rfl, by decide +kernel, by decide +kernel⟩
abbrev s_require_count_to : Stmt := top 10
theorem sc_require_count_to : FnScope ["value", "most"] ["value", "most"] (defScope s_require_count_to) := ⟨rfl, rfl, rfl, by decide +kernel, rfl, by decide +kernel, by decide +kernel⟩
abbrev s_require_tick : Stmt := top 13
theorem sc_require_tick : FnScope ["value"] ["value"] (defScope s_require_tick) := ⟨rfl, rfl, rfl, by decide +kernel, rfl, by decide +kernel, by decide +kernel⟩
abbrev s_is_window : Stmt := top 14
theorem sc_is_window : FnScope ["start", "end"] ["start", "end"] (defScope s_is_window) := ⟨rfl, rfl, rfl, by decide +kernel, rfl, by decide +kernel, by decide +kernel⟩
abbrev s_require_window : Stmt := top 15
theorem sc_require_window : FnScope ["start", "end"] ["start", "end"] (defScope s_require_window) := ⟨rfl, rfl, rfl, by decide +kernel, rfl, by decide +kernel, by decide +kernel⟩
abbrev s_Supply_init : Stmt := inClass (top 18) 0
theorem sc_Supply_init : FnScope ["self", "capacity", "changes", "wrong"] ["self", "capacity", "changes"] (defScope s_Supply_init) := ⟨rfl, rfl, rfl, by decide +kernel, rfl, by decide +kernel, by decide +kernel⟩
abbrev s_Supply_eq : Stmt := inClass (top 18) 1
theorem sc_Supply_eq : FnScope ["self", "other"] ["self", "other"] (defScope s_Supply_eq) := ⟨rfl, rfl, rfl, by decide +kernel, rfl, by decide +kernel, by decide +kernel⟩
abbrev s_Supply_at : Stmt := inClass (top 18) 2
theorem sc_Supply_at : FnScope ["self", "tick"] ["self", "tick"] (defScope s_Supply_at) := ⟨rfl, rfl, rfl, by decide +kernel, rfl, by decide +kernel, by decide +kernel⟩
abbrev s_Supply_between : Stmt := inClass (top 18) 3
theorem sc_Supply_between : FnScope ["self", "start", "end"] ["self", "start", "end"] (defScope s_Supply_between) := ⟨rfl, rfl, rfl, by decide +kernel, rfl, by decide +kernel, by decide +kernel⟩
abbrev s_Supply_changes : Stmt := inClass (top 18) 4
theorem sc_Supply_changes : FnScope ["self"] ["self"] (defScope s_Supply_changes) := ⟨rfl, rfl, rfl, by decide +kernel, rfl, by decide +kernel, by decide +kernel⟩
abbrev s_Supplybefore : Stmt := inClass (top 18) 5
theorem sc_Supplybefore : FnScope ["self", "tick", "last"] ["self", "tick"] (defScope s_Supplybefore) := ⟨rfl, rfl, rfl, by decide +kernel, rfl, by decide +kernel, by decide +kernel⟩
abbrev s_kept_changes : Stmt := top 19
theorem sc_kept_changes : FnScope ["capacity", "changes", "kept", "before", "tick", "after"] ["capacity", "changes"] (defScope s_kept_changes) := ⟨rfl, rfl, rfl, by decide +kernel, rfl, by decide +kernel, by decide +kernel⟩
abbrev s_sums_to_last : Stmt := top 20
theorem sc_sums_to_last : FnScope ["capacity", "changes", "sums", "before", "tick", "after"] ["capacity", "changes"] (defScope s_sums_to_last) := ⟨rfl, rfl, rfl, by decide +kernel, rfl, by decide +kernel, by decide +kernel⟩
abbrev s_find_wrong_change : Stmt := top 21
theorem sc_find_wrong_change : FnScope ["changes", "before", "position", "change"] ["changes"] (defScope s_find_wrong_change) := ⟨rfl, rfl, rfl, by decide +kernel, rfl, by decide +kernel, by decide +kernel⟩
abbrev s_is_change : Stmt := top 22
theorem sc_is_change : FnScope ["value"] ["value"] (defScope s_is_change) := ⟨rfl, rfl, rfl, by decide +kernel, rfl, by decide +kernel, by decide +kernel⟩
abbrev s_l_rng : Stmt := top 24
theorem sc_l_rng : FnScope ["_law_script", "_law_k", "_law_cell"] ["_law_script", "_law_k"] (defScope s_l_rng) := ⟨rfl, rfl, rfl, by decide +kernel, rfl, by decide +kernel, by decide +kernel⟩
abbrev s_l_draw : Stmt := top 25
theorem sc_l_draw : FnScope ["_law_rng_here", "_law_many", "_law_digit"] ["_law_rng_here", "_law_many"] (defScope s_l_draw) := ⟨rfl, rfl, rfl, by decide +kernel, rfl, by decide +kernel, by decide +kernel⟩
abbrev s_l_choice : Stmt := top 26
theorem sc_l_choice : FnScope ["_law_rng_here", "_law_some"] ["_law_rng_here", "_law_some"] (defScope s_l_choice) := ⟨rfl, rfl, rfl, by decide +kernel, rfl, by decide +kernel, by decide +kernel⟩
abbrev s_l_changes : Stmt := top 27
theorem sc_l_changes : FnScope ["_law_rng_here", "_law_many", "_law_found", "_law_now", "_law_before", "_law_far", "_law_turn"] ["_law_rng_here", "_law_many"] (defScope s_l_changes) := ⟨rfl, rfl, rfl, by decide +kernel, rfl, by decide +kernel, by decide +kernel⟩
abbrev s_l_at : Stmt := top 28
theorem sc_l_at : FnScope ["_law_many", "_law_steps", "_law_now", "_law_since", "_law_other"] ["_law_many", "_law_steps", "_law_now"] (defScope s_l_at) := ⟨rfl, rfl, rfl, by decide +kernel, rfl, by decide +kernel, by decide +kernel⟩
abbrev s_l_real : Stmt := top 29
theorem sc_l_real : FnScope ["_law_many", "_law_steps", "_law_found", "_law_before", "_law_now", "_law_other"] ["_law_many", "_law_steps"] (defScope s_l_real) := ⟨rfl, rfl, rfl, by decide +kernel, rfl, by decide +kernel, by decide +kernel⟩
abbrev s_l_ticks : Stmt := top 30
theorem sc_l_ticks : FnScope ["_law_rng_here", "_law_steps", "_law_found", "_law_now", "_law_other"] ["_law_rng_here", "_law_steps"] (defScope s_l_ticks) := ⟨rfl, rfl, rfl, by decide +kernel, rfl, by decide +kernel, by decide +kernel⟩
abbrev s_l_asked : Stmt := top 31
theorem sc_l_asked : FnScope ["_law_rng_here", "_law_supply", "_law_many", "_law_steps", "_law_ticks_here", "_law_due", "_law_turn", "_law_first", "_law_last", "_law_told", "_law_now"] ["_law_rng_here", "_law_supply", "_law_many", "_law_steps"] (defScope s_l_asked) := ⟨rfl, rfl, rfl, by decide +kernel, rfl, by decide +kernel, by decide +kernel⟩
abbrev s_l_others : Stmt := top 32
theorem sc_l_others : FnScope ["_law_rng_here", "_law_many", "_law_steps", "_law_found", "_law_at_here", "_law_now", "_law_other"] ["_law_rng_here", "_law_many", "_law_steps"] (defScope s_l_others) := ⟨rfl, rfl, rfl, by decide +kernel, rfl, by decide +kernel, by decide +kernel⟩
abbrev s_l_alike : Stmt := top 33
theorem sc_l_alike : FnScope ["_law_one", "_law_other", "_law_ticks_here", "_law_now", "_law_many"] ["_law_one", "_law_other"] (defScope s_l_alike) := ⟨rfl, rfl, rfl, by decide +kernel, rfl, by decide +kernel, by decide +kernel⟩
abbrev s_l_equal_right : Stmt := top 34
theorem sc_l_equal_right : FnScope ["_law_rng_here", "_law_supply", "_law_many", "_law_steps", "_law_other", "_law_beside", "_law_due", "_law_thing"] ["_law_rng_here", "_law_supply", "_law_many", "_law_steps"] (defScope s_l_equal_right) := ⟨rfl, rfl, rfl, by decide +kernel, rfl, by decide +kernel, by decide +kernel⟩
abbrev s_law : Stmt := top 35
theorem sc_law : FnScope ["_law_script", "_law_k", "_law_rng_here", "_law_many", "_law_steps", "_law_given", "_law_supply"] ["_law_script"] (defScope s_law) := ⟨rfl, rfl, rfl, by decide +kernel, rfl, by decide +kernel, by decide +kernel⟩
structure Ad where
  f_is_integer : Addr
  d_is_integer : FuncData
  f_is_count : Addr
  d_is_count : FuncData
  f_is_count_to : Addr
  d_is_count_to : FuncData
  f_require_count_to : Addr
  d_require_count_to : FuncData
  f_require_tick : Addr
  d_require_tick : FuncData
  f_is_window : Addr
  d_is_window : FuncData
  f_require_window : Addr
  d_require_window : FuncData
  f_Supply_init : Addr
  d_Supply_init : FuncData
  e_Supply_init0 : Addr
  f_Supply_eq : Addr
  d_Supply_eq : FuncData
  f_Supply_at : Addr
  d_Supply_at : FuncData
  f_Supply_between : Addr
  d_Supply_between : FuncData
  f_Supply_changes : Addr
  d_Supply_changes : FuncData
  f_Supplybefore : Addr
  d_Supplybefore : FuncData
  f_kept_changes : Addr
  d_kept_changes : FuncData
  f_sums_to_last : Addr
  d_sums_to_last : FuncData
  f_find_wrong_change : Addr
  d_find_wrong_change : FuncData
  f_is_change : Addr
  d_is_change : FuncData
  f_l_rng : Addr
  d_l_rng : FuncData
  f_l_draw : Addr
  d_l_draw : FuncData
  f_l_choice : Addr
  d_l_choice : FuncData
  f_l_changes : Addr
  d_l_changes : FuncData
  f_l_at : Addr
  d_l_at : FuncData
  f_l_real : Addr
  d_l_real : FuncData
  f_l_ticks : Addr
  d_l_ticks : FuncData
  f_l_asked : Addr
  d_l_asked : FuncData
  f_l_others : Addr
  d_l_others : FuncData
  f_l_alike : Addr
  d_l_alike : FuncData
  f_l_equal_right : Addr
  d_l_equal_right : FuncData
  f_law : Addr
  d_law : FuncData
  Supply : Addr
  t_MAX_TICK : Tok
  t_MAX_CAPACITY : Tok
structure Txt (K : PySem.W.Frag) (mg : Str → Option Value) (A : Ad) : Prop where
  ic_Supply : VN.IsC K A.Supply
  F_is_integer : Fun K "is_integer" "is_integer" s_is_integer A.f_is_integer A.d_is_integer
  m_is_integer : mg "is_integer" = some (.ref A.f_is_integer)
  k_is_integer : PySem.W.keepIn K (.ref A.f_is_integer) = true
  b_is_integer : Binds K A.d_is_integer ["value"] []
  F_is_count : Fun K "is_count" "is_count" s_is_count A.f_is_count A.d_is_count
  m_is_count : mg "is_count" = some (.ref A.f_is_count)
  k_is_count : PySem.W.keepIn K (.ref A.f_is_count) = true
  b_is_count : Binds K A.d_is_count ["value"] []
  F_is_count_to : Fun K "is_count_to" "is_count_to" s_is_count_to A.f_is_count_to A.d_is_count_to
  m_is_count_to : mg "is_count_to" = some (.ref A.f_is_count_to)
  k_is_count_to : PySem.W.keepIn K (.ref A.f_is_count_to) = true
  b_is_count_to : Binds K A.d_is_count_to ["value", "most"] []
  F_require_count_to : Fun K "require_count_to" "require_count_to" s_require_count_to A.f_require_count_to A.d_require_count_to
  m_require_count_to : mg "require_count_to" = some (.ref A.f_require_count_to)
  k_require_count_to : PySem.W.keepIn K (.ref A.f_require_count_to) = true
  b_require_count_to : Binds K A.d_require_count_to ["value", "most"] []
  F_require_tick : Fun K "require_tick" "require_tick" s_require_tick A.f_require_tick A.d_require_tick
  m_require_tick : mg "require_tick" = some (.ref A.f_require_tick)
  k_require_tick : PySem.W.keepIn K (.ref A.f_require_tick) = true
  b_require_tick : Binds K A.d_require_tick ["value"] []
  F_is_window : Fun K "is_window" "is_window" s_is_window A.f_is_window A.d_is_window
  m_is_window : mg "is_window" = some (.ref A.f_is_window)
  k_is_window : PySem.W.keepIn K (.ref A.f_is_window) = true
  b_is_window : Binds K A.d_is_window ["start", "end"] []
  F_require_window : Fun K "require_window" "require_window" s_require_window A.f_require_window A.d_require_window
  m_require_window : mg "require_window" = some (.ref A.f_require_window)
  k_require_window : PySem.W.keepIn K (.ref A.f_require_window) = true
  b_require_window : Binds K A.d_require_window ["start", "end"] []
  e_Supply_init0_ : ∀ H, SqT K H A.e_Supply_init0 []
  F_Supply_init : FunD K "__init__" "Supply.__init__" (defArgs s_Supply_init) (defBody s_Supply_init) (defScope s_Supply_init) [V.ref A.e_Supply_init0] [] A.f_Supply_init A.d_Supply_init
  M_Supply : Mk K A.Supply A.f_Supply_init
  F_Supply_eq : Fun K "__eq__" "Supply.__eq__" s_Supply_eq A.f_Supply_eq A.d_Supply_eq
  b_Supply_eq : Binds K A.d_Supply_eq ["self", "other"] []
  me___eq__ : Meth K A.Supply "__eq__" A.f_Supply_eq
  F_Supply_at : Fun K "at" "Supply.at" s_Supply_at A.f_Supply_at A.d_Supply_at
  b_Supply_at : Binds K A.d_Supply_at ["self", "tick"] []
  me_at : Meth K A.Supply "at" A.f_Supply_at
  F_Supply_between : Fun K "between" "Supply.between" s_Supply_between A.f_Supply_between A.d_Supply_between
  b_Supply_between : Binds K A.d_Supply_between ["self", "start", "end"] []
  me_between : Meth K A.Supply "between" A.f_Supply_between
  F_Supply_changes : Fun K "changes" "Supply.changes" s_Supply_changes A.f_Supply_changes A.d_Supply_changes
  b_Supply_changes : Binds K A.d_Supply_changes ["self"] []
  me_changes : Meth K A.Supply "changes" A.f_Supply_changes
  F_Supplybefore : Fun K "_before" "Supply._before" s_Supplybefore A.f_Supplybefore A.d_Supplybefore
  b_Supplybefore : Binds K A.d_Supplybefore ["self", "tick"] []
  me__before : Meth K A.Supply "_before" A.f_Supplybefore
  F_kept_changes : Fun K "kept_changes" "kept_changes" s_kept_changes A.f_kept_changes A.d_kept_changes
  m_kept_changes : mg "kept_changes" = some (.ref A.f_kept_changes)
  k_kept_changes : PySem.W.keepIn K (.ref A.f_kept_changes) = true
  b_kept_changes : Binds K A.d_kept_changes ["capacity", "changes"] []
  F_sums_to_last : Fun K "sums_to_last" "sums_to_last" s_sums_to_last A.f_sums_to_last A.d_sums_to_last
  m_sums_to_last : mg "sums_to_last" = some (.ref A.f_sums_to_last)
  k_sums_to_last : PySem.W.keepIn K (.ref A.f_sums_to_last) = true
  b_sums_to_last : Binds K A.d_sums_to_last ["capacity", "changes"] []
  F_find_wrong_change : Fun K "find_wrong_change" "find_wrong_change" s_find_wrong_change A.f_find_wrong_change A.d_find_wrong_change
  m_find_wrong_change : mg "find_wrong_change" = some (.ref A.f_find_wrong_change)
  k_find_wrong_change : PySem.W.keepIn K (.ref A.f_find_wrong_change) = true
  b_find_wrong_change : Binds K A.d_find_wrong_change ["changes"] []
  F_is_change : Fun K "is_change" "is_change" s_is_change A.f_is_change A.d_is_change
  m_is_change : mg "is_change" = some (.ref A.f_is_change)
  k_is_change : PySem.W.keepIn K (.ref A.f_is_change) = true
  b_is_change : Binds K A.d_is_change ["value"] []
  F_l_rng : Fun K "_law_rng" "_law_rng" s_l_rng A.f_l_rng A.d_l_rng
  m_l_rng : mg "_law_rng" = some (.ref A.f_l_rng)
  k_l_rng : PySem.W.keepIn K (.ref A.f_l_rng) = true
  b_l_rng : Binds K A.d_l_rng ["_law_script", "_law_k"] []
  F_l_draw : Fun K "_law_draw" "_law_draw" s_l_draw A.f_l_draw A.d_l_draw
  m_l_draw : mg "_law_draw" = some (.ref A.f_l_draw)
  k_l_draw : PySem.W.keepIn K (.ref A.f_l_draw) = true
  b_l_draw : Binds K A.d_l_draw ["_law_rng_here", "_law_many"] []
  F_l_choice : Fun K "_law_choice" "_law_choice" s_l_choice A.f_l_choice A.d_l_choice
  m_l_choice : mg "_law_choice" = some (.ref A.f_l_choice)
  k_l_choice : PySem.W.keepIn K (.ref A.f_l_choice) = true
  b_l_choice : Binds K A.d_l_choice ["_law_rng_here", "_law_some"] []
  F_l_changes : Fun K "_law_changes" "_law_changes" s_l_changes A.f_l_changes A.d_l_changes
  m_l_changes : mg "_law_changes" = some (.ref A.f_l_changes)
  k_l_changes : PySem.W.keepIn K (.ref A.f_l_changes) = true
  b_l_changes : Binds K A.d_l_changes ["_law_rng_here", "_law_many"] []
  F_l_at : Fun K "_law_at" "_law_at" s_l_at A.f_l_at A.d_l_at
  m_l_at : mg "_law_at" = some (.ref A.f_l_at)
  k_l_at : PySem.W.keepIn K (.ref A.f_l_at) = true
  b_l_at : Binds K A.d_l_at ["_law_many", "_law_steps", "_law_now"] []
  F_l_real : Fun K "_law_real" "_law_real" s_l_real A.f_l_real A.d_l_real
  m_l_real : mg "_law_real" = some (.ref A.f_l_real)
  k_l_real : PySem.W.keepIn K (.ref A.f_l_real) = true
  b_l_real : Binds K A.d_l_real ["_law_many", "_law_steps"] []
  F_l_ticks : Fun K "_law_ticks" "_law_ticks" s_l_ticks A.f_l_ticks A.d_l_ticks
  m_l_ticks : mg "_law_ticks" = some (.ref A.f_l_ticks)
  k_l_ticks : PySem.W.keepIn K (.ref A.f_l_ticks) = true
  b_l_ticks : Binds K A.d_l_ticks ["_law_rng_here", "_law_steps"] []
  F_l_asked : Fun K "_law_asked" "_law_asked" s_l_asked A.f_l_asked A.d_l_asked
  m_l_asked : mg "_law_asked" = some (.ref A.f_l_asked)
  k_l_asked : PySem.W.keepIn K (.ref A.f_l_asked) = true
  b_l_asked : Binds K A.d_l_asked ["_law_rng_here", "_law_supply", "_law_many", "_law_steps"] []
  F_l_others : Fun K "_law_others" "_law_others" s_l_others A.f_l_others A.d_l_others
  m_l_others : mg "_law_others" = some (.ref A.f_l_others)
  k_l_others : PySem.W.keepIn K (.ref A.f_l_others) = true
  b_l_others : Binds K A.d_l_others ["_law_rng_here", "_law_many", "_law_steps"] []
  F_l_alike : Fun K "_law_alike" "_law_alike" s_l_alike A.f_l_alike A.d_l_alike
  m_l_alike : mg "_law_alike" = some (.ref A.f_l_alike)
  k_l_alike : PySem.W.keepIn K (.ref A.f_l_alike) = true
  b_l_alike : Binds K A.d_l_alike ["_law_one", "_law_other"] []
  F_l_equal_right : Fun K "_law_equal_right" "_law_equal_right" s_l_equal_right A.f_l_equal_right A.d_l_equal_right
  m_l_equal_right : mg "_law_equal_right" = some (.ref A.f_l_equal_right)
  k_l_equal_right : PySem.W.keepIn K (.ref A.f_l_equal_right) = true
  b_l_equal_right : Binds K A.d_l_equal_right ["_law_rng_here", "_law_supply", "_law_many", "_law_steps"] []
  F_law : Fun K "law" "law" s_law A.f_law A.d_law
  m_law : mg "law" = some (.ref A.f_law)
  k_law : PySem.W.keepIn K (.ref A.f_law) = true
  b_law : Binds K A.d_law ["_law_script"] []
  abs : mg "abs" = none
  all : mg "all" = none
  any : mg "any" = none
  bool : mg "bool" = none
  divmod : mg "divmod" = none
  enumerate : mg "enumerate" = none
  int : mg "int" = none
  isinstance : mg "isinstance" = none
  len : mg "len" = none
  list : mg "list" = none
  max : mg "max" = none
  min : mg "min" = none
  range : mg "range" = none
  repr : mg "repr" = none
  sum : mg "sum" = none
  tuple : mg "tuple" = none
  v_MAX_TICK : mg "MAX_TICK" = some (.int 1000 A.t_MAX_TICK)
  v_MAX_CAPACITY : mg "MAX_CAPACITY" = some (.int 20 A.t_MAX_CAPACITY)
  m_Supply : mg "Supply" = some (.ref A.Supply)
  clSupply : Cls K A.Supply
  n_first : NoAttr K A.Supply "_first"
  n_changes : NoAttr K A.Supply "_changes"
  n_sums : NoAttr K A.Supply "_sums"
  n_last : NoAttr K A.Supply "_last"
/-! ### counts -/
/-- the built-in classes of the values that occur -/
def kinds : List String := ["NoneType", "bool", "int", "str", "list", "tuple", "dict"]
def Kd (K : PySem.W.Frag) (H : Hp) (v : V) (n : String) : Prop := TyX K H v (.type n) ∧ n ∈ kinds
theorem Kd.int {K : PySem.W.Frag} {H : Hp} (i : Int) : Kd K H (.int i) "int" := ⟨.base (.int i), by decide⟩
theorem Kd.is_int {K : PySem.W.Frag} {H : Hp} {v : V} (h : Kd K H v "int") : ∃ i, v = .int i := by
  obtain ⟨h, _⟩ := h
  generalize e : Value.type "int" = t at h
  cases h with
  | base b => cases b <;> first | exact ⟨_, rfl⟩ | (injection e with e; exact absurd e (by decide)) | cases e
  | _ => first | (injection e with e; exact absurd e (by decide)) | cases e
/-- a count -/
def cnt : V → Bool
  | .int i => decide (0 ≤ i)
  | _ => false
def cntTo (m : Int) : V → Bool
  | .int i => decide (0 ≤ i ∧ i ≤ m)
  | _ => false
def sp_is_integer (K : PySem.W.Frag) (_ : Ad) : Sp := fun vs H Q _ => ∃ v n, vs = [v] ∧ Kd K H v n ∧ Q (.bl (n == "int")) H
def sp_is_count (K : PySem.W.Frag) (_ : Ad) : Sp := fun vs H Q _ => ∃ v n, vs = [v] ∧ Kd K H v n ∧ Q (.bl (cnt v)) H
def sp_require_count_to (_ : PySem.W.Frag) (_ : Ad) : Sp := fun vs H Q _ => ∃ n m : Int, vs = [.int n, .int m] ∧ 0 ≤ n ∧ n ≤ m ∧ Q .non H
def sp_is_count_to (K : PySem.W.Frag) (_ : Ad) : Sp := fun vs H Q _ => ∃ v n m, vs = [v, .int m] ∧ Kd K H v n ∧ Q (.bl (cntTo m v)) H
def sp_require_tick (_ : PySem.W.Frag) (_ : Ad) : Sp := fun vs H Q _ => ∃ n : Int, vs = [.int n] ∧ 0 ≤ n ∧ n ≤ 1000 ∧ Q .non H
def sp_is_window (_ : PySem.W.Frag) (_ : Ad) : Sp := fun vs H Q _ => ∃ a b : Int, vs = [.int a, .int b] ∧ 0 ≤ a ∧ a < b ∧ Q (.bl true) H
def sp_require_window (_ : PySem.W.Frag) (_ : Ad) : Sp := fun vs H Q _ => ∃ a b : Int, vs = [.int a, .int b] ∧ 0 ≤ a ∧ a < b ∧ Q .non H
section
variable {P : Program} {w : World} {K : PySem.W.Frag} {mg : Str → Option Value} {base : Heap} {A : Ad}
theorem kitI {n : String} (h : n ∈ kinds) : PySem.W.kitOne K (.type n) (.type "int") = some (n == "int" || n == "bool") := by
  simp only [kinds, List.mem_cons, List.not_mem_nil, or_false] at h
  rcases h with rfl | rfl | rfl | rfl | rfl | rfl | rfl <;> exact kit_ty (by decide +kernel)
theorem kitB' {n : String} (h : n ∈ kinds) : PySem.W.kitOne K (.type n) (.type "bool") = some (n == "bool") := by
  simp only [kinds, List.mem_cons, List.not_mem_nil, or_false] at h
  rcases h with rfl | rfl | rfl | rfl | rfl | rfl | rfl <;> exact kit_ty (by decide +kernel)
theorem ok_is_integer (T : Txt K mg A) : FnOk P w K mg base CX0 1 A.f_is_integer A.d_is_integer ["value"] (sp_is_integer K A) := by
  refine T.F_is_integer.ok sc_is_integer (fun vs H Q E h => ?_) (fun cdv A0 outer s H vs Q E hr h => ?_)
  · obtain ⟨v, n, rfl, hk, q⟩ := h
    rfl
  · obtain ⟨v, n, rfl, hk, q⟩ := h
    refine ⟨_, (pss_one (ps_ret (pe_and (pe_callB (r := rIsi K) call_isi (by rfl) T.isinstance (by decide +kernel) (pa_cons (pv 0) (pa_cons (pe_bltn (v := .ty "int") (u := .type "int") (by rfl) T.int (by decide +kernel) (by exact rfl)) pa_nil))) (pe_one (pe_not (pe_callB (r := rIsi K) call_isi (by rfl) T.isinstance (by decide +kernel) (pa_cons (pv 0) (pa_cons (pe_bltn (v := .ty "bool") (u := .type "bool") (by rfl) T.bool (by decide +kernel) (by exact rfl)) pa_nil)))))))), ?_⟩
    refine ⟨_, rfl, v, .ty "int", _, _, _, rfl, .ty _, hk.1, kitI hk.2, _, rfl, ?_⟩
    refine ite2 (fun c => ?_) (fun c => ?_)
    · refine ⟨_, rfl, v, .ty "bool", _, _, _, rfl, .ty _, hk.1, kitB' hk.2, _, rfl, ?_⟩
      by_cases e : n = "bool"
      · subst e; exact q
      · have e1 : (n == "bool") = false := by simpa using e
        rw [e1] at c ⊢
        simp at c
        subst c
        exact q
    · simp at c
      have e1 : (n == "int") = false := by simpa using c.1
      rw [e1] at q
      exact q
theorem ok_is_count (T : Txt K mg A) : FnOk P w K mg base CX0 2 A.f_is_count A.d_is_count ["value"] (sp_is_count K A) := by
  have G_is_integer := ok_is_integer (P := P) (w := w) (base := base) T
  refine T.F_is_count.ok sc_is_count (fun vs H Q E h => ?_) (fun cdv A0 outer s H vs Q E hr h => ?_)
  · obtain ⟨v, n, rfl, hk, q⟩ := h
    rfl
  · obtain ⟨v, n, rfl, hk, q⟩ := h
    refine ⟨_, (pss_one (ps_ret (pe_and (pe_call G_is_integer (hr.mono (by decide)) rfl T.m_is_integer T.k_is_integer T.b_is_integer .nil pass0 (pa_cons (pv 0) pa_nil)) (pe_one (pe_cmpR op_ge (pv 0) pe_int (nomark _)))))), ?_⟩
    refine ⟨_, rfl, v, n, rfl, hk, _, rfl, ?_⟩
    refine ite2 (fun c => ?_) (fun c => ?_)
    · have e : n = "int" := by simpa using c
      subst e
      obtain ⟨i, rfl⟩ := hk.is_int
      exact ⟨_, rfl, _, _, rfl, rfl, q⟩
    · have e : cnt v = false := by
        cases v <;> first | rfl | skip
        obtain ⟨h, _⟩ := hk
        generalize et : Value.type n = t at h
        cases h with
        | base b => cases b; injection et with et; subst et; exact absurd rfl c
      rw [e] at q
      exact q
theorem ok_is_count_to (T : Txt K mg A) : FnOk P w K mg base CX0 3 A.f_is_count_to A.d_is_count_to ["value", "most"] (sp_is_count_to K A) := by
  have G_is_count := ok_is_count (P := P) (w := w) (base := base) T
  refine T.F_is_count_to.ok sc_is_count_to (fun vs H Q E h => ?_) (fun cdv A0 outer s H vs Q E hr h => ?_)
  · obtain ⟨v, n, m, rfl, hk, q⟩ := h
    rfl
  · obtain ⟨v, n, m, rfl, hk, q⟩ := h
    refine ⟨_, (pss_one (ps_ret (pe_and (pe_call G_is_count (hr.mono (by decide)) rfl T.m_is_count T.k_is_count T.b_is_count .nil pass0 (pa_cons (pv 0) pa_nil)) (pe_one (pe_cmpR op_le (pv 0) (pv 1) (nomark _)))))), ?_⟩
    refine ⟨_, rfl, v, n, rfl, hk, _, rfl, ?_⟩
    refine ite2 (fun c => ?_) (fun c => ?_)
    · cases v with
      | int i =>
        have c : 0 ≤ i := by simpa [cnt] using c
        refine ⟨_, rfl, _, rfl, _, _, rfl, rfl, ?_⟩
        have e : cntTo m (.int i) = decide (i ≤ m) := by unfold cntTo; simp [c]
        rw [e] at q
        exact q
      | _ => simp [cnt] at c
    · have e : cntTo m v = false := by
        cases v <;> first | rfl | skip
        rename_i i
        have c : ¬ 0 ≤ i := by simpa [cnt] using c
        unfold cntTo; simp [c]
      rw [e] at q
      exact q
theorem ok_require_count_to (T : Txt K mg A) : FnOk P w K mg base CX0 4 A.f_require_count_to A.d_require_count_to ["value", "most"] (sp_require_count_to K A) := by
  have G_is_count_to := ok_is_count_to (P := P) (w := w) (base := base) T
  refine T.F_require_count_to.ok sc_require_count_to (fun vs H Q E h => ?_) (fun cdv A0 outer s H vs Q E hr h => ?_)
  · obtain ⟨n, m, rfl, h, h2, q⟩ := h
    rfl
  · obtain ⟨n, m, rfl, h, h2, q⟩ := h
    refine ⟨_, (pss_one (ps_if (pt_not (pt_val (pe_call G_is_count_to (hr.mono (by decide)) rfl T.m_is_count_to T.k_is_count_to T.b_is_count_to .nil pass0 (pa_cons (pv 0) (pa_cons (pv 1) pa_nil))))) (pss_one ps_never) pss_nil)), ?_⟩
    refine ⟨_, rfl, _, rfl, _, _, _, rfl, Kd.int _, ?_⟩
    have e1 : cntTo m (.int n) = true := by unfold cntTo; exact decide_eq_true ⟨h, h2⟩
    rw [e1]
    exact ⟨_, rfl, iteF q⟩
theorem ok_require_tick (T : Txt K mg A) : FnOk P w K mg base CX0 4 A.f_require_tick A.d_require_tick ["value"] (sp_require_tick K A) := by
  have G_is_count_to := ok_is_count_to (P := P) (w := w) (base := base) T
  refine T.F_require_tick.ok sc_require_tick (fun vs H Q E h => ?_) (fun cdv A0 outer s H vs Q E hr h => ?_)
  · obtain ⟨n, rfl, h, h2, q⟩ := h
    rfl
  · obtain ⟨n, rfl, h, h2, q⟩ := h
    refine ⟨_, (pss_one (ps_if (pt_not (pt_val (pe_call G_is_count_to (hr.mono (by decide)) rfl T.m_is_count_to T.k_is_count_to T.b_is_count_to .nil pass0 (pa_cons (pv 0) (pa_cons (pe_glob (v := .int 1000) rfl T.v_MAX_TICK ⟨_, rfl⟩) pa_nil))))) (pss_one ps_never) pss_nil)), ?_⟩
    refine ⟨_, rfl, _, _, _, rfl, Kd.int _, ?_⟩
    have e1 : cntTo 1000 (.int n) = true := by unfold cntTo; exact decide_eq_true ⟨h, h2⟩
    rw [e1]
    exact ⟨_, rfl, iteF q⟩
theorem ok_is_window (T : Txt K mg A) : FnOk P w K mg base CX0 3 A.f_is_window A.d_is_window ["start", "end"] (sp_is_window K A) := by
  have G_is_count := ok_is_count (P := P) (w := w) (base := base) T
  refine T.F_is_window.ok sc_is_window (fun vs H Q E h => ?_) (fun cdv A0 outer s H vs Q E hr h => ?_)
  · obtain ⟨a, b, rfl, h, h2, q⟩ := h
    rfl
  · obtain ⟨a, b, rfl, h, h2, q⟩ := h
    refine ⟨_, (pss_one (ps_ret (pe_and (pe_call G_is_count (hr.mono (by decide)) rfl T.m_is_count T.k_is_count T.b_is_count .nil pass0 (pa_cons (pv 0) pa_nil)) (pe_and (pe_call G_is_count (hr.mono (by decide)) rfl T.m_is_count T.k_is_count T.b_is_count .nil pass0 (pa_cons (pv 1) pa_nil)) (pe_one (pe_cmpR op_lt (pv 0) (pv 1) (nomark _))))))), ?_⟩
    refine ⟨_, rfl, _, _, rfl, Kd.int _, ?_⟩
    rw [show cnt (.int a) = true from decide_eq_true h]
    refine ⟨_, rfl, iteT ⟨_, rfl, _, _, rfl, Kd.int _, ?_⟩⟩
    rw [show cnt (.int b) = true from decide_eq_true (show 0 ≤ b by omega)]
    refine ⟨_, rfl, iteT ⟨_, rfl, _, rfl, _, _, rfl, rfl, ?_⟩⟩
    show Q (.bl (decide (a < b))) H
    rw [decide_eq_true h2]
    exact q
theorem ok_require_window (T : Txt K mg A) : FnOk P w K mg base CX0 4 A.f_require_window A.d_require_window ["start", "end"] (sp_require_window K A) := by
  have G_is_window := ok_is_window (P := P) (w := w) (base := base) T
  refine T.F_require_window.ok sc_require_window (fun vs H Q E h => ?_) (fun cdv A0 outer s H vs Q E hr h => ?_)
  · obtain ⟨a, b, rfl, h, h2, q⟩ := h
    rfl
  · obtain ⟨a, b, rfl, h, h2, q⟩ := h
    refine ⟨_, (pss_one (ps_if (pt_not (pt_val (pe_call G_is_window (hr.mono (by decide)) rfl T.m_is_window T.k_is_window T.b_is_window .nil pass0 (pa_cons (pv 0) (pa_cons (pv 1) pa_nil))))) (pss_one ps_never) pss_nil)), ?_⟩
    refine ⟨_, rfl, _, rfl, _, _, rfl, h, h2, ?_⟩
    exact ⟨_, rfl, iteF q⟩
end
end VK


namespace VK
open PySem PySem.Spec PyProof.Rows L2 VM
theorem getD_map {xs : List Int} {j : Nat} (h : j < xs.length) : (xs.map V.int)[j]? = some (.int (xs.getD j 0)) := by
  rw [List.getElem?_map, List.getD_eq_getElem?_getD, List.getElem?_eq_getElem h]
  rfl
theorem at_map {xs : List Int} {i : Int} (h0 : 0 ≤ i) (h : i < xs.length) : atI (xs.map V.int) i = some (.int (xs.getD i.toNat 0)) := by
  have e : i = ((i.toNat : Nat) : Int) := by omega
  rw [e]
  exact atI_nat (getD_map (by omega))
theorem at_back {xs : List Int} {i : Int} (h0 : i < 0) (h : -(xs.length : Int) ≤ i) : atI (xs.map V.int) i = some (.int (xs.getD (i + xs.length).toNat 0)) := by
  unfold atI ixN
  rw [if_neg (by omega), List.length_map, if_pos h]
  show (xs.map V.int)[_]? = _
  exact getD_map (by omega)
theorem deq_int {a b : Int} : decide (V.int a = V.int b) = decide (a = b) := by
  by_cases h : a = b
  · subst h; simp
  · rw [decide_eq_false h, decide_eq_false (fun q => h (V.int.inj q))]
/-- a test of two ints on equality -/
theorem ifEq {a b : Int} {X Y : Prop} (h1 : a = b → X) (h2 : a ≠ b → Y) : if decide (V.int a = V.int b) = true then X else Y := by
  rw [deq_int]
  exact ite2 (fun c => h1 (of_decide_eq_true c)) fun c => h2 fun e => c (decide_eq_true e)
theorem ifD {c X Y : Prop} [Decidable c] (h1 : c → X) (h2 : ¬ c → Y) : if decide c = true then X else Y :=
  ite2 (fun e => h1 (of_decide_eq_true e)) fun e => h2 fun q => e (decide_eq_true q)
theorem ifNe {a b : Int} {X Y : Prop} (h1 : a ≠ b → X) (h2 : a = b → Y) : if (!decide (V.int a = V.int b)) = true then X else Y := by
  rw [deq_int]
  exact ite2 (fun c => h1 fun e => by rw [e] at c; simp at c) fun c => h2 (by simpa using c)
theorem iteEqV {v : V} {X Y : Prop} (h : X) : if decide (v = v) = true then X else Y := by
  rw [decide_eq_true rfl]; exact h
theorem iteNeV {v : V} {X Y : Prop} (h : Y) : if (!decide (v = v)) = true then X else Y := by
  rw [decide_eq_true rfl]; exact h
/-- f's values at 0, 1, .. below m -/
def row (f : Int → Int) (m : Nat) : List Int := (List.range m).map fun (i : Nat) => f i
theorem row_length {f : Int → Int} {m : Nat} : (row f m).length = m := by simp [row]
theorem row_getD {f : Int → Int} {m i : Nat} (h : i < m) : (row f m).getD i 0 = f i := by
  unfold row
  rw [List.getD_eq_getElem?_getD, List.getElem?_map, List.getElem?_range h]
  rfl
theorem at_row {f : Int → Int} {m : Nat} {i : Int} (h0 : 0 ≤ i) (h : i < m) : atI ((row f m).map V.int) i = some (.int (f i)) := by
  rw [at_map h0 (by rw [row_length]; exact h), row_getD (by omega)]
  congr 3; omega
theorem row_succ {f : Int → Int} {m : Nat} : row f (m + 1) = row f m ++ [f m] := by
  unfold row; rw [List.range_succ, List.map_append]; rfl
theorem rowI_succ {f : Int → Int} {m : Nat} : (row f (m + 1)).map V.int = (row f m).map V.int ++ [V.int (f m)] := by
  rw [row_succ, List.map_append]; rfl
theorem small {n : Nat} (h : n ≤ 16777215) : n < sizeLine := by rw [sizeLine_eq]; omega
/-- a new object leaves what was tracked -/
theorem Same.upd {H H' : Hp} {p : Addr} {o : HO} (e : Same H H') (h : H p = none) : Same H (upd H' p o) := fun b u q => by
  rw [upd_ne (ne_of_none q h)]; exact e b u q
theorem nth_map {xs : List Int} {i : Nat} {x : V} (h : (xs.map V.int)[i]? = some x) : i < xs.length ∧ x = .int (xs.getD i 0) := by
  have hi : i < xs.length := by
    have := (List.getElem?_eq_some_iff.mp h).1
    rw [List.length_map] at this
    exact this
  rw [getD_map hi] at h
  exact ⟨hi, (Option.some.inj h).symm⟩
theorem dp_ints {K : PySem.W.Frag} {H : Hp} : ∀ us : List Int, DpAll K H (us.map V.int) (us.map PyData.int)
  | [] => .nil
  | u :: us => .cons (.int u) (dp_ints us)
theorem shaped_ints (us : List Int) : SeqAt.shaped (.list (us.map PyData.int)) = true := by
  have a : ∀ us : List Int, PyData.canLayAll0 (us.map PyData.int) = true := by
    intro us
    induction us with
    | nil => rfl
    | cons u us ih =>
      simp only [List.map_cons, PyData.canLayAll0, ih, Bool.and_true]
      rfl
  have b : ∀ us : List Int, PyData.depthAll (us.map PyData.int) ≤ 1 := by
    intro us
    induction us with
    | nil => exact Nat.zero_le _
    | cons u us ih =>
      simp only [List.map_cons, PyData.depthAll, PyData.depth]
      omega
  have c := b us
  refine Bool.and_eq_true_iff.mpr ⟨?_, decide_eq_true ?_⟩
  · simp only [PyData.canLay0]; exact a us
  · simp only [PyData.depth]; omega
theorem eqv_ints : ∀ us ws : List Int, PyData.eqv (.list (us.map PyData.int)) (.list (ws.map PyData.int)) = decide (us = ws) := by
  have a : ∀ us ws : List Int, PyData.eqvAll (us.map PyData.int) (ws.map PyData.int) = decide (us = ws) := by
    intro us
    induction us with
    | nil =>
      intro ws
      cases ws with
      | nil => rfl
      | cons w ws => rfl
    | cons u us ih =>
      intro ws
      cases ws with
      | nil => rfl
      | cons w ws =>
        simp only [List.map_cons, PyData.eqvAll, ih]
        by_cases h1 : u = w
        · subst h1
          by_cases h2 : us = ws
          · subst h2; simp [PyData.eqv]
          · rw [decide_eq_false h2, decide_eq_false (fun z => h2 (List.cons.inj z).2)]; simp
        · rw [decide_eq_false (fun z => h1 (List.cons.inj z).1)]
          simp [PyData.eqv, h1]
  intro us ws
  simp only [PyData.eqv]
  exact a us ws
end VK


namespace VK
open PySem PySem.Spec PyProof.Rows L2 VM
/-- the state of draws at r -/
def Rng (H : Hp) (r : Addr) : Prop := ∃ a b : Int, H r = some (.lst [.int a, .int b]) ∧ 0 ≤ a ∧ 0 ≤ b ∧ b < 2147483563
/-- all but the state of draws stands -/
structure Ext (r : Addr) (H H' : Hp) : Prop where
  keep : ∀ b o, b ≠ r → H b = some o → H' b = some o
  rng : Rng H' r
theorem Ext.refl {r : Addr} {H : Hp} (h : Rng H r) : Ext r H H := ⟨fun _ _ _ e => e, h⟩
theorem Ext.trans {r : Addr} {H H1 H2 : Hp} (a : Ext r H H1) (b : Ext r H1 H2) : Ext r H H2 := ⟨fun c o n e => b.keep c o n (a.keep c o n e), b.rng⟩
theorem Rng.same {r : Addr} {H H' : Hp} (h : Rng H r) (s : Same H H') : Rng H' r := by
  obtain ⟨a, b, e, h1, h2, h3⟩ := h
  exact ⟨a, b, s _ _ e, h1, h2, h3⟩
theorem Ext.of {r : Addr} {H H' : Hp} (h : Rng H r) (s : Same H H') : Ext r H H' := ⟨fun b o _ e => s b o e, h.same s⟩
theorem Ext.same {r : Addr} {H H1 H2 : Hp} (a : Ext r H H1) (s : Same H1 H2) : Ext r H H2 := a.trans (.of a.rng s)
theorem Ext.free {r : Addr} {H H' : Hp} {l : Addr} (e : Ext r H H') (h : H' l = none) : H l = none := by
  have n : l ≠ r := fun z => by
    obtain ⟨a, b, q, _⟩ := e.rng
    rw [z, q] at h; cases h
  cases q : H l with
  | none => rfl
  | some o => rw [e.keep l o n q] at h; cases h
theorem Ext.seq {K : PySem.W.Frag} {r : Addr} {H H' : Hp} {a : Addr} {xs : List V} (e : Ext r H H') (n : a ≠ r) (h : SqL K H a xs) : SqL K H' a xs := by
  rcases h with (h | ⟨o, h⟩) | h
  · exact .inl (.inl (e.keep _ _ n h))
  · exact .inl (.inr ⟨o, e.keep _ _ n h⟩)
  · exact .inr h
theorem Rng.ne {r l : Addr} {H : Hp} (h : Rng H r) (hl : H l = none) : l ≠ r := fun z => by
  obtain ⟨a, b, q, _⟩ := h
  rw [z, q] at hl; cases hl
def sp_l_rng (K : PySem.W.Frag) (_ : Ad) : Sp := fun vs H Q _ => ∃ (a : Addr) (ns : List Int) (k : Int), vs = [.ref a, .int k] ∧ SqL K H a (ns.map V.int) ∧ 0 ≤ k ∧ k ≤ 100 ∧
  ∀ H' p, Same H H' → H p = none → Rng H' p → Q (.ref p) H'
def sp_l_draw (_ : PySem.W.Frag) (_ : Ad) : Sp := fun vs H Q _ => ∃ (r : Addr) (m : Int), vs = [.ref r, .int m] ∧ Rng H r ∧ 0 < m ∧ m < 1073741824 ∧
  ∀ H' d, Ext r H H' → 0 ≤ d → d < m → Q (.int d) H'
def sp_l_choice (K : PySem.W.Frag) (_ : Ad) : Sp := fun vs H Q _ => ∃ (r l : Addr) (ys : List V), vs = [.ref r, .ref l] ∧ Rng H r ∧ SqL K H l ys ∧ l ≠ r ∧ 0 < ys.length ∧ ys.length < 1000000 ∧
  ∀ H' v, Ext r H H' → v ∈ ys → Q v H'
section
variable {P : Program} {w : World} {K : PySem.W.Frag} {mg : Str → Option Value} {base : Heap} {A : Ad}
theorem ok_l_rng (T : Txt K mg A) : FnOk P w K mg base CX0 1 A.f_l_rng A.d_l_rng ["_law_script", "_law_k"] (sp_l_rng K A) := by
  refine T.F_l_rng.ok sc_l_rng (fun vs H Q E h => ?_) (fun cdv A0 outer s H vs Q E hr h => ?_)
  · obtain ⟨a, ns, k, rfl, hS, hk, hk2, q⟩ := h
    rfl
  · obtain ⟨a, ns, k, rfl, hS, hk, hk2, q⟩ := h
    refine ⟨_, (pss_cons (ps_set (i := 2) sc_l_rng.nd rfl (by first | exact Or.inl rfl | exact Or.inr rfl) (pe_op op_add (pe_op op_mul pe_int (pv 1)) pe_int))
    (pss_cons (ps_if (pt_cmpR op_lt (pv 1) (pe_callB (r := VG.rLen K) VG.call_len (by rfl) T.len (by decide +kernel) (pa_cons (pv 0) pa_nil)) (nomark _)) (pss_one (ps_set (i := 2) sc_l_rng.nd rfl (by first | exact Or.inl rfl | exact Or.inr rfl) (pe_ix (r := rIxL K) ix_list (pv 0) (pv 1) (fun _ _ => rfl)))) pss_nil)
    (pss_one (ps_ret (pe_lst (pa_cons (pe_callB (call_max2 rfl) (by rfl) T.max (by decide +kernel) (pa_cons pe_int (pa_cons (pe_op op_sub (pe_callB call_abs (by rfl) T.abs (by decide +kernel) (pa_cons (pv 2) pa_nil)) (pe_op op_pow pe_int pe_int)) pa_nil))) (pa_cons (pe_op op_add (pe_op op_mod (pe_op op_mul (pe_callTy call_int1 (by rfl) T.int (by decide +kernel) (pa_cons (pe_op op_add (pe_op op_mod (pe_callTy call_int1 (by rfl) T.int (by decide +kernel) (pa_cons (pe_callB call_abs (by rfl) T.abs (by decide +kernel) (pa_cons (pv 2) pa_nil)) pa_nil)) pe_int) pe_int) pa_nil)) (pe_op op_pow (pe_op op_add (pe_op op_mul pe_int (pv 1)) pe_int) pe_int)) pe_int) pe_int) pa_nil))))))), ?_⟩
    refine ⟨_, rfl, _, _, rfl, rfl, .inl ⟨by decide, by decide⟩, _, _, rfl, rfl, ?_⟩
    refine ⟨_, rfl, _, rfl, a, _, rfl, .inl hS, _, _, rfl, rfl, _, rfl, ?_⟩
    rw [List.length_map]
    have b1 : (2 * k + 5).natAbs < 2 ^ 64 := by omega
    refine ifD (fun c => ?_) (fun c => ?_)
    · refine ⟨_, rfl, _, rfl, a, _, _, _, rfl, rfl, hS, at_map hk c, ?_⟩
      generalize ns.getD k.toNat 0 = c0
      refine ⟨_, rfl, _, rfl, _, _, rfl, rfl, ⟨by decide, by decide, by decide⟩, _, _, rfl, rfl, _, _, rfl, ?_⟩
      have z1 := Int.emod_nonneg (if c0 < 0 then -c0 else c0) (show (2147483549 : Int) ≠ 0 by decide)
      have z2 := Int.emod_lt_of_pos (if c0 < 0 then -c0 else c0) (show (0 : Int) < 2147483549 by decide)
      refine ⟨_, rfl, _, rfl, .inl ⟨_, rfl, _, _, rfl, rfl, (by show (0 : Int) < 2147483549; decide), _, _, rfl, rfl, .inl ⟨_, rfl, _, rfl, _, _, rfl, rfl, .inl ⟨by decide, by decide⟩, _, _, rfl, rfl, _, _, rfl, rfl, ⟨by decide, by decide, b1⟩, _, _, rfl, rfl, .inl ⟨by omega, by omega⟩, _, _, rfl, rfl, (by show (0 : Int) < 2147483543; decide), _, _, rfl, rfl, (by show 2 ≤ sizeLine; decide), fun p hp => ?_⟩⟩⟩
      have z3 := Int.emod_nonneg (((if c0 < 0 then -c0 else c0) % 2147483549 + 1) * (2 * k + 5) ^ Int.toNat 3) (show (2147483543 : Int) ≠ 0 by decide)
      have z4 := Int.emod_lt_of_pos (((if c0 < 0 then -c0 else c0) % 2147483549 + 1) * (2 * k + 5) ^ Int.toNat 3) (show (0 : Int) < 2147483543 by decide)
      refine q _ p (Same.upd (Same.refl H) hp) hp ⟨_, _, upd_same, ?_, by omega, by omega⟩
      by_cases cc : (if c0 < 0 then -c0 else c0) - 10 ^ Int.toNat 18 > 0
      · rw [if_pos cc]; omega
      · rw [if_neg cc]; omega
    · refine ⟨_, rfl, _, rfl, _, _, rfl, rfl, ⟨by decide, by decide, by decide⟩, _, _, rfl, rfl, _, _, rfl, ?_⟩
      have z1 := Int.emod_nonneg (if (7 * k + 3) < 0 then -(7 * k + 3) else (7 * k + 3)) (show (2147483549 : Int) ≠ 0 by decide)
      have z2 := Int.emod_lt_of_pos (if (7 * k + 3) < 0 then -(7 * k + 3) else (7 * k + 3)) (show (0 : Int) < 2147483549 by decide)
      refine ⟨_, rfl, _, rfl, .inl ⟨_, rfl, _, _, rfl, rfl, (by show (0 : Int) < 2147483549; decide), _, _, rfl, rfl, .inl ⟨_, rfl, _, rfl, _, _, rfl, rfl, .inl ⟨by decide, by decide⟩, _, _, rfl, rfl, _, _, rfl, rfl, ⟨by decide, by decide, b1⟩, _, _, rfl, rfl, .inl ⟨by omega, by omega⟩, _, _, rfl, rfl, (by show (0 : Int) < 2147483543; decide), _, _, rfl, rfl, (by show 2 ≤ sizeLine; decide), fun p hp => ?_⟩⟩⟩
      have z3 := Int.emod_nonneg (((if (7 * k + 3) < 0 then -(7 * k + 3) else (7 * k + 3)) % 2147483549 + 1) * (2 * k + 5) ^ Int.toNat 3) (show (2147483543 : Int) ≠ 0 by decide)
      have z4 := Int.emod_lt_of_pos (((if (7 * k + 3) < 0 then -(7 * k + 3) else (7 * k + 3)) % 2147483549 + 1) * (2 * k + 5) ^ Int.toNat 3) (show (0 : Int) < 2147483543 by decide)
      refine q _ p (Same.upd (Same.refl H) hp) hp ⟨_, _, upd_same, ?_, by omega, by omega⟩
      by_cases cc : (if (7 * k + 3) < 0 then -(7 * k + 3) else (7 * k + 3)) - 10 ^ Int.toNat 18 > 0
      · rw [if_pos cc]; omega
      · rw [if_neg cc]; omega
theorem ok_l_draw (T : Txt K mg A) : FnOk P w K mg base CX0 1 A.f_l_draw A.d_l_draw ["_law_rng_here", "_law_many"] (sp_l_draw K A) := by
  refine T.F_l_draw.ok sc_l_draw (fun vs H Q E h => ?_) (fun cdv A0 outer s H vs Q E hr h => ?_)
  · obtain ⟨r, m, rfl, ⟨a, b, hr0, ha, hb, hb2⟩, hm, hm2, q⟩ := h
    rfl
  · obtain ⟨r, m, rfl, ⟨a, b, hr0, ha, hb, hb2⟩, hm, hm2, q⟩ := h
    refine ⟨_, (pss_cons (ps_if (pt_cmpR op_gt (pe_ix (r := rIxL K) ix_list (pv 0) pe_int (fun _ _ => rfl)) pe_int (nomark _)) (pss_cons (ps_asg (pe_callB call_divmod (by rfl) T.divmod (by decide +kernel) (pa_cons (pe_ix (r := rIxL K) ix_list (pv 0) pe_int (fun _ _ => rfl)) (pa_cons (pv 1) pa_nil))) (pg_tup rfl (pgs_cons (pg_sub (pv 0) pe_int set_list) (pgs_cons (pg_name (i := 2) sc_l_draw.nd rfl (by first | exact Or.inl rfl | exact Or.inr rfl)) pgs_nil))))
    (pss_one (ps_ret (pv 2)))) pss_nil)
    (pss_cons (ps_asg (pe_op op_mod (pe_callTy call_int1 (by rfl) T.int (by decide +kernel) (pa_cons (pe_op op_add (pe_op op_mul (pe_ix (r := rIxL K) ix_list (pv 0) pe_int (fun _ _ => rfl)) pe_int) pe_int) pa_nil)) pe_int) (pg_sub (pv 0) pe_int set_list))
    (pss_one (ps_ret (pe_op op_mod (pe_op op_fdiv (pe_op op_mod (pe_callTy call_int1 (by rfl) T.int (by decide +kernel) (pa_cons (pe_op op_mul (pe_ix (r := rIxL K) ix_list (pv 0) pe_int (fun _ _ => rfl)) (pe_ix (r := rIxL K) ix_list (pv 0) pe_int (fun _ _ => rfl))) pa_nil)) pe_int) pe_int) (pv 1)))))), ?_⟩
    refine ⟨_, rfl, r, _, _, _, rfl, rfl, SqL.of hr0, rfl, _, _, rfl, rfl, _, rfl, ifD (fun c => ?_) (fun c => ?_)⟩
    · refine ⟨_, rfl, r, _, _, _, rfl, rfl, SqL.of hr0, rfl, _, rfl, _, _, rfl, ⟨hm, hm2⟩, fun t ht => ?_⟩
      have nrt : r ≠ t := ne_of_none hr0 ht
      refine ⟨t, _, rfl, SqT.of upd_same, rfl, _, _, rfl, _, rfl, r, _, _, 0, rfl, rfl, (by rw [upd_ne nrt]; exact hr0), rfl, _, _, rfl, rfl, ?_⟩
      refine ⟨_, rfl, q _ _ ⟨fun z o hz e => ?_, a / m, b, upd_same, Int.ediv_nonneg ha (by omega), hb, hb2⟩ (Int.emod_nonneg _ (by omega)) (Int.emod_lt_of_pos _ hm)⟩
      rw [upd_ne hz, upd_ne (ne_of_none e ht)]; exact e
    · refine ⟨_, rfl, r, _, _, _, rfl, rfl, SqL.of hr0, rfl, _, _, rfl, rfl, .inl ⟨by omega, by omega⟩, _, _, rfl, rfl, .inl ⟨_, rfl, _, _, rfl, rfl, (by show (0 : Int) < 2147483563; decide), ?_⟩⟩
      have e0 := Int.emod_nonneg (b * 48311 + 20011) (show (2147483563 : Int) ≠ 0 by decide)
      have e1 := Int.emod_lt_of_pos (b * 48311 + 20011) (show (0 : Int) < 2147483563 by decide)
      refine ⟨_, rfl, r, _, _, 1, rfl, rfl, hr0, rfl, ?_⟩
      have hr1 : upd H r (.lst [.int a, .int ((b * 48311 + 20011) % 2147483563)]) r = some (.lst [.int a, .int ((b * 48311 + 20011) % 2147483563)]) := upd_same
      refine ⟨_, rfl, r, [.int a, .int ((b * 48311 + 20011) % 2147483563)], _, _, rfl, rfl, SqL.of hr1, rfl, _, rfl, r, [.int a, .int ((b * 48311 + 20011) % 2147483563)], _, _, rfl, rfl, SqL.of hr1, rfl, _, _, rfl, rfl, .inl ⟨by omega, by omega⟩, .inl ⟨_, rfl, _, _, rfl, rfl, (by show (0 : Int) < 2147483497; decide), _, _, rfl, rfl, ⟨by decide, by decide⟩, _, rfl, _, _, rfl, rfl, hm, ?_⟩⟩
      exact q _ _ ⟨fun z o hz e => by rw [upd_ne hz]; exact e, a, _, hr1, ha, e0, e1⟩ (Int.emod_nonneg _ (by omega)) (Int.emod_lt_of_pos _ hm)
theorem ok_l_choice (T : Txt K mg A) : FnOk P w K mg base CX0 2 A.f_l_choice A.d_l_choice ["_law_rng_here", "_law_some"] (sp_l_choice K A) := by
  have G_l_draw := ok_l_draw (P := P) (w := w) (base := base) T
  refine T.F_l_choice.ok sc_l_choice (fun vs H Q E h => ?_) (fun cdv A0 outer s H vs Q E hr h => ?_)
  · obtain ⟨r, l, ys, rfl, hr0, hS, hl, hy, hy2, q⟩ := h
    rfl
  · obtain ⟨r, l, ys, rfl, hr0, hS, hl, hy, hy2, q⟩ := h
    refine ⟨_, (pss_one (ps_ret (pe_ix (r := rIxL K) ix_list (pv 1) (pe_call G_l_draw (hr.mono (by decide)) rfl T.m_l_draw T.k_l_draw T.b_l_draw .nil pass0 (pa_cons (pv 0) (pa_cons (pe_callB (r := VG.rLen K) VG.call_len (by rfl) T.len (by decide +kernel) (pa_cons (pv 1) pa_nil)) pa_nil))) (fun _ _ => rfl)))), ?_⟩
    refine ⟨_, rfl, _, rfl, _, rfl, l, _, rfl, .inl hS, r, _, rfl, hr0, by omega, by omega, fun H1 d e1 h0 h1 => ?_⟩
    have hd : d.toNat < ys.length := by omega
    refine ⟨l, ys, d, ys[d.toNat], rfl, rfl, e1.seq hl hS, ?_, q H1 _ e1 (List.getElem_mem hd)⟩
    exact at_of (j := d.toNat) (by omega) (List.getElem?_eq_getElem hd)
end
end VK


namespace VK
open PySem PySem.Spec PyProof.Rows L2 VM
open VD (SqB)
abbrev Stp := Int × Int
/-- what stands in a change's tuple -/
def stV (z : Stp) : List V := [.int z.1, .int z.2]
def zV (zs : List (Addr × Stp)) : List V := zs.map fun z => V.ref z.1
def zS (zs : List (Addr × Stp)) : List Stp := zs.map (·.2)
theorem zV_length {zs : List (Addr × Stp)} : (zV zs).length = zs.length := by unfold zV; simp
theorem zS_length {zs : List (Addr × Stp)} : (zS zs).length = zs.length := by unfold zS; simp
def StH (H : Hp) (zs : List (Addr × Stp)) : Prop := ∀ z ∈ zs, H z.1 = some (.tup (stV z.2))
theorem StH.same {H H' : Hp} {zs : List (Addr × Stp)} (h : StH H zs) (s : Same H H') : StH H' zs := fun z hz => s _ _ (h z hz)
theorem z_nth {zs : List (Addr × Stp)} {i : Nat} {v : V} (e : (zV zs)[i]? = some v) : ∃ z, zs[i]? = some z ∧ v = .ref z.1 ∧ z ∈ zs := by
  unfold zV at e
  rw [List.getElem?_map] at e
  cases ez : zs[i]? with
  | none => rw [ez] at e; cases e
  | some z => rw [ez] at e; cases e; exact ⟨z, rfl, rfl, List.mem_of_getElem? ez⟩
theorem take_z {zs : List (Addr × Stp)} {i : Nat} {z : Addr × Stp} (e : zs[i]? = some z) : zS (zs.take (i + 1)) = zS (zs.take i) ++ [z.2] := by
  unfold zS
  rw [List.take_add_one, e, List.map_append]; rfl
/-- steps that stand in a list -/
def StL (r : Addr) (H : Hp) (l : Addr) (S : List Stp) : Prop := ∃ zs, H l = some (.lst (zV zs)) ∧ (∀ z ∈ zs, H z.1 = some (.tup (stV z.2)) ∧ z.1 ≠ r) ∧ zS zs = S ∧ l ≠ r
/-- steps that stand in a list or a tuple -/
def StB (K : PySem.W.Frag) (H : Hp) (l : Addr) (S : List Stp) : Prop := ∃ zs, SqB K H l (zV zs) ∧ StH H zs ∧ zS zs = S
theorem StL.same {r : Addr} {H H' : Hp} {l : Addr} {S : List Stp} (h : StL r H l S) (s : Same H H') : StL r H' l S := by
  obtain ⟨zs, h1, h2, h3, h4⟩ := h
  exact ⟨zs, s _ _ h1, fun z hz => ⟨s _ _ (h2 z hz).1, (h2 z hz).2⟩, h3, h4⟩
theorem StB.same {K : PySem.W.Frag} {H H' : Hp} {l : Addr} {S : List Stp} (h : StB K H l S) (s : Same H H') : StB K H' l S := by
  obtain ⟨zs, h1, h2, h3⟩ := h
  exact ⟨zs, h1.same s, h2.same s, h3⟩
theorem StL.b {K : PySem.W.Frag} {r : Addr} {H : Hp} {l : Addr} {S : List Stp} (h : StL r H l S) : StB K H l S := by
  obtain ⟨zs, h1, h2, h3, h4⟩ := h
  exact ⟨zs, .inl (SqL.of h1), fun z hz => (h2 z hz).1, h3⟩
theorem StB.put {K : PySem.W.Frag} {H : Hp} {l x C dx : Addr} {fs : List (Str × V)} {o : HO} {S : List Stp} (h : StB K H l S) (hx : H x = some (.ins C dx fs)) : StB K (upd H x o) l S := by
  obtain ⟨zs, h1, h2, h3⟩ := h
  have ne : ∀ {a : Addr} {o' : HO}, H a = some o' → o' ≠ .ins C dx fs → a ≠ x := fun h n e => n (Option.some.inj (h.symm.trans (e ▸ hx)))
  refine ⟨zs, ?_, fun z hz => by rw [upd_ne (ne (h2 z hz) (fun e => by cases e))]; exact h2 z hz, h3⟩
  rcases h1 with ((h | ⟨q, h⟩) | h) | ((h | ⟨q, h⟩) | h)
  · exact .inl (.inl (.inl (by rw [upd_ne (ne h (fun e => by cases e))]; exact h)))
  · exact .inl (.inl (.inr ⟨q, by rw [upd_ne (ne h (fun e => by cases e))]; exact h⟩))
  · exact .inl (.inr h)
  · exact .inr (.inl (.inl (by rw [upd_ne (ne h (fun e => by cases e))]; exact h)))
  · exact .inr (.inl (.inr ⟨q, by rw [upd_ne (ne h (fun e => by cases e))]; exact h⟩))
  · exact .inr (.inr h)
/-- steps as they may be given -/
structure Stps (S : List Stp) : Prop where
  srt : Srt 0 S
  t1 : ∀ z ∈ S, z.1 ≤ 1000
  v0 : ∀ z ∈ S, 0 ≤ z.2 ∧ z.2 ≤ 20
  len : S.length ≤ 1000
theorem Stps.nil : Stps [] := ⟨trivial, fun z h => by (cases h), fun z h => by (cases h), by decide⟩
theorem Stps.kept {S : List Stp} (h : Stps S) (c : Int) : Stps (keptS c S) := ⟨keptS_srt h.srt, fun z hz => h.t1 z (keptS_mem z hz), fun z hz => h.v0 z (keptS_mem z hz), Nat.le_trans keptS_len h.len⟩
theorem last_lt {S : List Stp} {b s : Int} (h : Srt b S) (hb : b < s) (hs : ∀ z ∈ S, z.1 < s) : lastT b S < s := by
  induction S generalizing b with
  | nil => exact hb
  | cons z S ih => exact ih h.2 (hs z (List.mem_cons_self ..)) fun y hy => hs y (List.mem_cons_of_mem _ hy)
def sp_kept_changes (K : PySem.W.Frag) (_ : Ad) : Sp := fun vs H Q _ => ∃ (l : Addr) (c : Int) (S : List Stp), vs = [.int c, .ref l] ∧ StB K H l S ∧ Stps S ∧
  ∀ H' k zs, Same H H' → H k = none → H' k = some (.lst (zV zs)) → (∀ z ∈ zs, H z.1 = none ∧ H' z.1 = some (.tup (stV z.2))) → zS zs = keptS c S → Q (.ref k) H'
def sp_sums_to_last (K : PySem.W.Frag) (_ : Ad) : Sp := fun vs H Q _ => ∃ (l : Addr) (c : Int) (S : List Stp), vs = [.int c, .ref l] ∧ StB K H l S ∧ Stps S ∧
  ∀ H' k, Same H H' → H k = none → H' k = some (.lst ((rowP (atF c S) ((lastT 0 S).toNat + 1)).map V.int)) → Q (.ref k) H'
def sp_is_change (K : PySem.W.Frag) (_ : Ad) : Sp := fun vs H Q _ => ∃ (t : Addr) (z : Stp), vs = [.ref t] ∧ H t = some (.tup (stV z)) ∧ 0 ≤ z.1 ∧ z.1 ≤ 1000 ∧ 0 ≤ z.2 ∧ z.2 ≤ 20 ∧ Q (.bl true) H
def sp_find_wrong_change (K : PySem.W.Frag) (_ : Ad) : Sp := fun vs H Q _ => ∃ (l : Addr) (S : List Stp), vs = [.ref l] ∧ StB K H l S ∧ Stps S ∧ ∀ H', Same H H' → Q .non H'
section
variable {P : Program} {w : World} {K : PySem.W.Frag} {mg : Str → Option Value} {base : Heap} {A : Ad}
theorem ok_is_change (T : Txt K mg A) : FnOk P w K mg base CX0 4 A.f_is_change A.d_is_change ["value"] (sp_is_change K A) := by
  have G_is_count_to := ok_is_count_to (P := P) (w := w) (base := base) T
  refine T.F_is_change.ok sc_is_change (fun vs H Q E h => ?_) (fun cdv A0 outer s H vs Q E hr h => ?_)
  · obtain ⟨t, z, rfl, ht, a0, a1, b0, b1, q⟩ := h
    rfl
  · obtain ⟨t, z, rfl, ht, a0, a1, b0, b1, q⟩ := h
    refine ⟨_, (pss_cons (ps_if (PW.pt (pw_or (pt_not (pt_val (pe_callB (r := rIsi K) call_isi (by rfl) T.isinstance (by decide +kernel) (pa_cons (pv 0) (pa_cons (pe_bltn (v := .ty "tuple") (u := .type "tuple") (by rfl) T.tuple (by decide +kernel) (by exact rfl)) pa_nil))))) (pw_or1 (pt_cmpR op_ne (pe_callB (r := VG.rLen K) VG.call_len (by rfl) T.len (by decide +kernel) (pa_cons (pv 0) pa_nil)) pe_int (nomark _))))) (pss_one (ps_ret pe_bl)) pss_nil)
    (pss_one (ps_ret (pe_and (pe_call G_is_count_to (hr.mono (by decide)) rfl T.m_is_count_to T.k_is_count_to T.b_is_count_to .nil pass0 (pa_cons (pe_ix (r := rIxT K) ix_tup (pv 0) pe_int (fun _ _ => rfl)) (pa_cons (pe_glob (v := .int 1000) rfl T.v_MAX_TICK ⟨_, rfl⟩) pa_nil))) (pe_one (pe_call G_is_count_to (hr.mono (by decide)) rfl T.m_is_count_to T.k_is_count_to T.b_is_count_to .nil pass0 (pa_cons (pe_ix (r := rIxT K) ix_tup (pv 0) pe_int (fun _ _ => rfl)) (pa_cons (pe_glob (v := .int 20) rfl T.v_MAX_CAPACITY ⟨_, rfl⟩) pa_nil)))))))), ?_⟩
    refine ⟨_, rfl, .ref t, .ty "tuple", _, _, _, rfl, .ty _, .base (.tup ht), (show PySem.W.kitOne K (.type "tuple") (.type "tuple") = some true from kit_ty (by decide +kernel)), _, rfl, iteF ?_⟩
    refine ⟨_, rfl, t, _, rfl, .inr (SqT.of ht), rfl, _, rfl, iteF ?_⟩
    refine ⟨_, rfl, t, _, _, _, rfl, rfl, SqT.of ht, rfl, .int z.1, _, 1000, rfl, Kd.int _, ?_⟩
    rw [show cntTo 1000 (.int z.1) = true from decide_eq_true ⟨a0, a1⟩]
    refine ⟨_, rfl, iteT ?_⟩
    refine ⟨_, rfl, t, _, _, _, rfl, rfl, SqT.of ht, rfl, .int z.2, _, 20, rfl, Kd.int _, ?_⟩
    rw [show cntTo 20 (.int z.2) = true from decide_eq_true ⟨b0, b1⟩]
    exact q
theorem ok_kept_changes (T : Txt K mg A) : FnOk P w K mg base CX0 1 A.f_kept_changes A.d_kept_changes ["capacity", "changes"] (sp_kept_changes K A) := by
  refine T.F_kept_changes.ok sc_kept_changes (fun vs H Q E h => ?_) (fun cdv A0 outer s H vs Q E hr h => ?_)
  · obtain ⟨l, c, S, rfl, ⟨zs, hq, hz, rfl⟩, ok, k⟩ := h
    rfl
  · obtain ⟨l, c, S, rfl, ⟨zs, hq, hz, rfl⟩, ok, k⟩ := h
    refine ⟨_, (pss_cons (ps_set (i := 2) sc_kept_changes.nd rfl (by first | exact Or.inl rfl | exact Or.inr rfl) (pe_lst pa_nil))
    (pss_cons (ps_set (i := 3) sc_kept_changes.nd rfl (by first | exact Or.inl rfl | exact Or.inr rfl) (pv 0))
    (pss_cons (ps_for PassesOwn.never rfl (VD.pi_or (pi_list (pv 1)) (pi_tup (pv 1))) (pg_tup rfl (pgs_cons (pg_name (i := 4) sc_kept_changes.nd rfl (by first | exact Or.inl rfl | exact Or.inr rfl)) (pgs_cons (pg_name (i := 5) sc_kept_changes.nd rfl (by first | exact Or.inl rfl | exact Or.inr rfl)) pgs_nil)))
      (pss_cons (ps_if (pt_cmpR op_ne (pv 5) (pv 3) (nomark _)) (pss_one (ps_expr (pe_bm PySem.F.plainAttrs_list PySem.F.slot_list_append PySem.F.type_list_append mt_append (pv 2) (pa_cons (pe_tup (pa_cons (pv 4) (pa_cons (pv 5) pa_nil))) pa_nil)))) pss_nil)
    (pss_one (ps_set (i := 3) sc_kept_changes.nd rfl (by first | exact Or.inl rfl | exact Or.inr rfl) (pv 5)))))
    (pss_one (ps_ret (pv 2)))))), ?_⟩
    refine ⟨(by show 0 ≤ sizeLine; decide), fun q hq0 => ⟨_, rfl, ?_⟩⟩
    have s1 := Same.upd (o := .lst []) (Same.refl H) hq0
    have q1 : upd H q (.lst []) q = some (.lst (zV [])) := upd_same
    generalize upd H q (.lst []) = H1 at *
    refine VD.tfor_sq (H0 := H) (a := l) (xs := zV zs) hq s1 (fun Q q => ⟨_, rfl, q⟩) (fun i σ H' => ∃ v4 v5 ks, σ = [some (.int c), some (.ref l), some (.ref q), some (.int (lastV c (zS (zs.take i)))), v4, v5] ∧ Same H H' ∧ H' q = some (.lst (zV ks)) ∧ zS ks = keptS c (zS (zs.take i)) ∧ ∀ z ∈ ks, H z.1 = none ∧ z.1 ≠ q ∧ H' z.1 = some (.tup (stV z.2)))
      ⟨_, _, [], rfl, s1, q1, rfl, fun z h => by cases h⟩ (fun i σ H' ⟨_, _, _, _, s, _⟩ => s) ?_ ?_
    · rintro i v σ H2 hv ⟨v4, v5, ks, rfl, s2, q2, e2, kz⟩
      obtain ⟨z, ez, rfl, mz⟩ := z_nth hv
      have hz2 := s2 _ _ (hz z mz)
      have il : i < zs.length := (List.getElem?_eq_some_iff.mp ez).1
      refine ⟨z.1, _, rfl, SqT.of hz2, rfl, _, _, rfl, _, _, rfl, rfl, ?_⟩
      have et := take_z ez
      have el : ks.length ≤ 1000 := by
        have a := congrArg List.length e2
        rw [zS_length] at a
        have b := keptS_len (c := c) (S := zS (zs.take i))
        have d : (zS (zs.take i)).length ≤ i := by rw [zS_length, List.length_take]; omega
        have f := ok.len
        rw [zS_length] at f
        omega
      refine ⟨_, rfl, _, rfl, rfl, _, rfl, ?_⟩
      have nxt : (zs.take (i + 1)).length = i + 1 := by rw [List.length_take]; omega
      have ek : keptS c (zS (zs.take (i + 1))) = keptS c (zS (zs.take i)) ++ keptS (lastV c (zS (zs.take i))) [z.2] := by rw [et, keptS_app]
      have ev : lastV c (zS (zs.take (i + 1))) = z.2.2 := by rw [et]; exact lastV_push _ _ _ _
      refine ifNe (fun c1 => ?_) (fun c1 => ?_)
      · refine ⟨_, rfl, .inl ⟨rfl, _, SqL.of q2⟩, _, rfl, _, rfl, (by show 2 ≤ sizeLine; decide), fun t ht => ?_⟩
        have nqt : q ≠ t := ne_of_none q2 ht
        refine ⟨q, _, _, rfl, rfl, by rw [upd_ne nqt]; exact q2, small (by rw [zV_length]; omega), ?_⟩
        refine ⟨_, rfl, some (.int z.2.1), some (.int z.2.2), ks ++ [(t, z.2)], ?_, ?_, ?_, ?_, ?_⟩
        · rw [ev]; rfl
        · intro b o h
          rw [upd_ne (ne_of_none h hq0), upd_ne (ne_of_none (s2 _ _ h) ht)]
          exact s2 _ _ h
        · rw [upd_same]; unfold zV; rw [List.map_append]; rfl
        · rw [ek, ← e2]
          unfold keptS
          rw [if_pos c1]
          unfold zS
          rw [List.map_append]
          rfl
        · intro y hy
          rcases List.mem_append.mp hy with hy | hy
          · obtain ⟨y1, y2, y3⟩ := kz y hy
            exact ⟨y1, y2, by rw [upd_ne y2, upd_ne (ne_of_none y3 ht)]; exact y3⟩
          · cases List.mem_singleton.mp hy
            exact ⟨s2.free ht, Ne.symm nqt, by rw [upd_ne (Ne.symm nqt), upd_same]; rfl⟩
      · refine ⟨_, rfl, some (.int z.2.1), some (.int z.2.2), ks, ?_, s2, q2, ?_, kz⟩
        · rw [ev]; rfl
        · rw [ek, ← e2]
          unfold keptS
          rw [if_neg (by simpa using c1)]
          unfold keptS
          rw [List.append_nil]
    · rintro σ H2 ⟨v4, v5, ks, rfl, s2, q2, e2, kz⟩
      rw [zV_length, List.take_length] at e2
      exact ⟨_, rfl, k H2 q ks s2 hq0 q2 (fun z hz => ⟨(kz z hz).1, (kz z hz).2.2⟩) e2⟩
theorem ok_sums_to_last (T : Txt K mg A) : FnOk P w K mg base CX0 1 A.f_sums_to_last A.d_sums_to_last ["capacity", "changes"] (sp_sums_to_last K A) := by
  refine T.F_sums_to_last.ok sc_sums_to_last (fun vs H Q E h => ?_) (fun cdv A0 outer s H vs Q E hr h => ?_)
  · obtain ⟨l, c, S, rfl, ⟨zs, hq, hz, rfl⟩, ok, k⟩ := h
    rfl
  · obtain ⟨l, c, S, rfl, ⟨zs, hq, hz, rfl⟩, ok, k⟩ := h
    refine ⟨_, (pss_cons (ps_set (i := 2) sc_sums_to_last.nd rfl (by first | exact Or.inl rfl | exact Or.inr rfl) (pe_lst (pa_cons pe_int pa_nil)))
    (pss_cons (ps_set (i := 3) sc_sums_to_last.nd rfl (by first | exact Or.inl rfl | exact Or.inr rfl) (pv 0))
    (pss_cons (ps_for PassesOwn.never rfl (VD.pi_or (pi_list (pv 1)) (pi_tup (pv 1))) (pg_tup rfl (pgs_cons (pg_name (i := 4) sc_sums_to_last.nd rfl (by first | exact Or.inl rfl | exact Or.inr rfl)) (pgs_cons (pg_name (i := 5) sc_sums_to_last.nd rfl (by first | exact Or.inl rfl | exact Or.inr rfl)) pgs_nil)))
      (pss_cons (ps_while PassesOwn.never (pt_cmpR op_le (pe_callB (r := VG.rLen K) VG.call_len (by rfl) T.len (by decide +kernel) (pa_cons (pv 2) pa_nil)) (pv 4) (nomark _)) (pss_one (ps_expr (pe_bm PySem.F.plainAttrs_list PySem.F.slot_list_append PySem.F.type_list_append mt_append (pv 2) (pa_cons (pe_op op_add (pe_ix (r := rIxL K) ix_list (pv 2) (pe_un un_neg pe_int) (fun _ _ => rfl)) (pv 3)) pa_nil)))))
    (pss_one (ps_set (i := 3) sc_sums_to_last.nd rfl (by first | exact Or.inl rfl | exact Or.inr rfl) (pv 5)))))
    (pss_one (ps_ret (pv 2)))))), ?_⟩
    refine ⟨(by show 1 ≤ sizeLine; decide), fun q hq0 => ⟨_, rfl, ?_⟩⟩
    have s1 := Same.upd (o := .lst [.int 0]) (Same.refl H) hq0
    have q1 : upd H q (.lst [.int 0]) q = some (.lst ((rowP (atF c (zS zs)) ((lastT 0 (zS (zs.take 0))).toNat + 1)).map V.int)) := upd_same
    generalize upd H q (.lst [.int 0]) = H1 at *
    generalize hF : atF c (zS zs) = F at *
    have sp : ∀ (i : Nat) (z : Addr × Stp), zs[i]? = some z → 0 ≤ lastT 0 (zS (zs.take i)) ∧ lastT 0 (zS (zs.take i)) < z.2.1 ∧ z.2.1 ≤ 1000 ∧ (∀ t : Int, lastT 0 (zS (zs.take i)) ≤ t → t < z.2.1 → F t = lastV c (zS (zs.take i))) := fun i z ez => by
      have e : zS zs = zS (zs.take i) ++ (z.2.1, z.2.2) :: zS (zs.drop (i + 1)) := by
        have il := (List.getElem?_eq_some_iff.mp ez)
        have h : zs = zs.take i ++ z :: zs.drop (i + 1) := by
          have := List.take_append_drop i zs
          rw [List.drop_eq_getElem_cons il.1, il.2] at this
          exact this.symm
        unfold zS
        exact (congrArg (List.map (·.2)) h).trans (by rw [List.map_append, List.map_cons])
      have srt := ok.srt
      rw [e] at srt
      obtain ⟨m1, m2, m3⟩ := srt.mid
      have sl := srt.left
      have ge := lastT_ge sl
      have lt : lastT 0 (zS (zs.take i)) < z.2.1 := last_lt sl m2 m3
      refine ⟨ge, lt, ok.t1 z.2 ?_, fun t h1 h2 => ?_⟩
      · unfold zS; exact List.mem_map.mpr ⟨z, List.mem_of_getElem? ez, rfl⟩
      · rw [← hF, e, atF_app]
        have a := atF_low (c := lastV c (zS (zs.take i))) (S := (z.2.1, z.2.2) :: zS (zs.drop (i + 1))) (b := z.2.1 - 1) (t := t) ⟨by omega, m1⟩ (by omega)
        rw [at_last sl h1]
        exact a
    refine VD.tfor_sq (H0 := H) (a := l) (xs := zV zs) hq s1 (fun Q q => ⟨_, rfl, q⟩) (fun i σ H' => ∃ v4 v5, σ = [some (.int c), some (.ref l), some (.ref q), some (.int (lastV c (zS (zs.take i)))), v4, v5] ∧ Same H H' ∧ H' q = some (.lst ((rowP F ((lastT 0 (zS (zs.take i))).toNat + 1)).map V.int)))
      ⟨_, _, rfl, s1, q1⟩ (fun i σ H' ⟨_, _, _, s, _⟩ => s) ?_ ?_
    · rintro i v σ H2 hv ⟨v4, v5, rfl, s2, q2⟩
      obtain ⟨z, ez, rfl, mz⟩ := z_nth hv
      have hz2 := s2 _ _ (hz z mz)
      obtain ⟨p0, p1, p2, p3⟩ := sp i z ez
      have et := take_z ez
      have ev : lastV c (zS (zs.take (i + 1))) = z.2.2 := by rw [et]; exact lastV_push _ _ _ _
      have el : lastT 0 (zS (zs.take (i + 1))) = z.2.1 := by rw [et]; exact lastT_push _ _ _ _
      refine ⟨z.1, _, rfl, SqT.of hz2, rfl, _, _, rfl, _, _, rfl, rfl, ?_⟩
      refine ⟨fun m σ H' => ∃ n : Nat, m + n = z.2.1.toNat + 1 ∧ (lastT 0 (zS (zs.take i))).toNat + 1 ≤ n ∧ σ = [some (.int c), some (.ref l), some (.ref q), some (.int (lastV c (zS (zs.take i)))), some (.int z.2.1), some (.int z.2.2)] ∧ Same H H' ∧ H' q = some (.lst ((rowP F n).map V.int)), ⟨_, (lastT 0 (zS (zs.take i))).toNat + 1, (by show z.2.1.toNat + 1 - ((lastT 0 (zS (zs.take i))).toNat + 1) + _ = _; omega), Nat.le_refl _, rfl, s2, q2⟩, ?_⟩
      rintro m σ H3 ⟨n, hm, hn, rfl, s3, q3⟩
      refine ⟨_, rfl, q, _, rfl, .inl (SqL.of q3), _, rfl, _, _, rfl, rfl, _, rfl, ?_⟩
      rw [List.length_map, rowP_length]
      refine ifD (fun c1 => ?_) (fun c1 => ?_)
      · refine ⟨fun σ' H' => ∃ n' : Nat, n' = n + 1 ∧ σ' = [some (.int c), some (.ref l), some (.ref q), some (.int (lastV c (zS (zs.take i)))), some (.int z.2.1), some (.int z.2.2)] ∧ Same H H' ∧ H' q = some (.lst ((rowP F n').map V.int)), fun σ' H' ⟨n', e1, e2, e3, e4⟩ => ⟨m - 1, by omega, n', by omega, by omega, e2, e3, e4⟩, ?_⟩
        refine ⟨_, rfl, .inl ⟨rfl, _, SqL.of q3⟩, _, rfl, _, rfl, q, _, _, _, rfl, rfl, SqL.of q3, at_back (by decide) (by rw [rowP_length]; omega), _, rfl, _, _, rfl, rfl, ?_⟩
        refine ⟨q, _, _, rfl, rfl, q3, small (by rw [List.length_map, rowP_length]; omega), ?_⟩
        refine ⟨n + 1, rfl, rfl, fun b o h => by rw [upd_ne (ne_of_none h hq0)]; exact s3 _ _ h, ?_⟩
        rw [upd_same, rowP_length, rowP_getD (by omega), rowP_succ, List.map_append]
        have e : PS F n = PS F (-1 + (n : Int)).toNat + lastV c (zS (zs.take i)) := by
          obtain ⟨j, rfl⟩ : ∃ j, n = j + 1 := ⟨n - 1, by omega⟩
          rw [show (-1 + ((j + 1 : Nat) : Int)).toNat = j by omega]
          show PS F j + F j = _
          rw [p3 j (by omega) (by omega)]
        rw [e]
        rfl
      · have en : n = z.2.1.toNat + 1 := by omega
        subst en
        refine ⟨_, rfl, some (.int z.2.1), some (.int z.2.2), ?_, s3, ?_⟩
        · rw [ev]; rfl
        · rw [el]; exact q3
    · rintro σ H2 ⟨v4, v5, rfl, s2, q2⟩
      rw [zV_length, List.take_length] at q2
      exact ⟨_, rfl, k H2 q s2 hq0 q2⟩
theorem ok_find_wrong_change (T : Txt K mg A) : FnOk P w K mg base CX0 5 A.f_find_wrong_change A.d_find_wrong_change ["changes"] (sp_find_wrong_change K A) := by
  have G_is_change := ok_is_change (P := P) (w := w) (base := base) T
  refine T.F_find_wrong_change.ok sc_find_wrong_change (fun vs H Q E h => ?_) (fun cdv A0 outer s H vs Q E hr h => ?_)
  · obtain ⟨l, S, rfl, ⟨zs, hq, hz, rfl⟩, ok, k⟩ := h
    rfl
  · obtain ⟨l, S, rfl, ⟨zs, hq, hz, rfl⟩, ok, k⟩ := h
    refine ⟨_, (pss_cons (ps_if (pt_not (pt_val (pe_callB (r := rIsiT K) call_isiT (by rfl) T.isinstance (by decide +kernel) (pa_cons (pv 0) (pa_cons (pe_tup (pa_cons (pe_bltn (v := .ty "list") (u := .type "list") (by rfl) T.list (by decide +kernel) (by exact rfl)) (pa_cons (pe_bltn (v := .ty "tuple") (u := .type "tuple") (by rfl) T.tuple (by decide +kernel) (by exact rfl)) pa_nil))) pa_nil))))) (pss_one (ps_ret pe_int)) pss_nil)
    (pss_cons (ps_set (i := 1) sc_find_wrong_change.nd rfl (by first | exact Or.inl rfl | exact Or.inr rfl) pe_int)
    (pss_cons (ps_for PassesOwn.never rfl (VD.pi_or (pi_enum (by rfl) T.enumerate (pa_cons (pv 0) pa_nil)) (VE.pi_enumT (by rfl) T.enumerate (pa_cons (pv 0) pa_nil))) (pg_tup rfl (pgs_cons (pg_name (i := 2) sc_find_wrong_change.nd rfl (by first | exact Or.inl rfl | exact Or.inr rfl)) (pgs_cons (pg_name (i := 3) sc_find_wrong_change.nd rfl (by first | exact Or.inl rfl | exact Or.inr rfl)) pgs_nil)))
      (pss_cons (ps_if (PW.pt (pw_or (pt_not (pt_val (pe_call G_is_change (hr.mono (by decide)) rfl T.m_is_change T.k_is_change T.b_is_change .nil pass0 (pa_cons (pv 3) pa_nil)))) (pw_or1 (pt_cmpR op_le (pe_ix (r := rIxT K) ix_tup (pv 3) pe_int (fun _ _ => rfl)) (pv 1) (nomark _))))) (pss_one (ps_ret (pv 2))) pss_nil)
    (pss_one (ps_set (i := 1) sc_find_wrong_change.nd rfl (by first | exact Or.inl rfl | exact Or.inr rfl) (pe_ix (r := rIxT K) ix_tup (pv 3) pe_int (fun _ _ => rfl))))))
    (pss_one (ps_ret pe_non))))), ?_⟩
    have hT : ∃ n, TyX K H (.ref l) (.type n) ∧ (n = "list" ∨ n = "tuple") := by
      rcases hq with ((h | ⟨o, h⟩) | ⟨o, its, n, h, hc, _⟩) | ((h | ⟨o, h⟩) | ⟨o, its, n, h, hc, _⟩)
      · exact ⟨_, .base (.lst h), .inl rfl⟩
      · exact ⟨_, .base (.frz h), .inl rfl⟩
      · exact ⟨_, .kList h hc, .inl rfl⟩
      · exact ⟨_, .base (.tup h), .inr rfl⟩
      · exact ⟨_, .fTuple h, .inr rfl⟩
      · exact ⟨_, .kTuple h hc, .inr rfl⟩
    obtain ⟨n, hT, hn⟩ := hT
    have hk : PySem.W.kitAny K (.type n) [.type "list", .type "tuple"] = some true := by
      rcases hn with rfl | rfl
      · exact kitAny_cons (b := true) (kit_ty (by decide +kernel)) (fun e => by cases e) (fun _ => rfl)
      · exact kitAny_cons (b := false) (kit_ty (by decide +kernel)) (fun _ => kitAny_cons (b := true) (kit_ty (by decide +kernel)) (fun e => by cases e) (fun _ => rfl)) (fun e => by cases e)
    refine ⟨_, rfl, (by show 2 ≤ sizeLine; decide), fun tp htp => ?_⟩
    have s1 := Same.upd (o := .tup [.ty "list", .ty "tuple"]) (Same.refl H) htp
    have hT1 : TyX K (upd H tp (.tup [.ty "list", .ty "tuple"])) (.ref l) (.type n) := by
      clear hk
      cases hT with
      | base h =>
        cases h with
        | lst h => exact .base (.lst (s1 _ _ h))
        | frz h => exact .base (.frz (s1 _ _ h))
        | tup h => exact .base (.tup (s1 _ _ h))
        | dK h => exact .base (.dK (s1 _ _ h))
        | _ => exact absurd hn (by decide)
      | kList h hc => exact .kList h hc
      | kTuple h hc => exact .kTuple h hc
      | fTuple h => exact .fTuple (s1 _ _ h)
      | _ => exact absurd hn (by decide)
    refine ⟨_, tp, _, _, _, _, rfl, upd_same, .cons (.ty _) (.cons (.ty _) .nil), hT1, hk, _, rfl, iteF ?_⟩
    generalize upd H tp (.tup [.ty "list", .ty "tuple"]) = H1 at *
    have hmem : ∀ (i : Nat) (z : Addr × Stp), zs[i]? = some z → z.2 ∈ zS zs := fun i z ez => by unfold zS; exact List.mem_map.mpr ⟨z, List.mem_of_getElem? ez, rfl⟩
    refine VD.tfor_en (H0 := H) (a := l) (xs := zV zs) hq s1 (fun Q q => ⟨_, rfl, q⟩) (fun i σ H' => ∃ v2 v3, σ = [some (.ref l), some (.int (lastT 0 (zS (zs.take i)))), v2, v3] ∧ Same H H')
      ⟨_, _, rfl, s1⟩ (fun i σ H' ⟨_, _, _, s⟩ => s) ?_ ?_
    · rintro i v σ H2 Tt H3 hv ⟨v2, v3, rfl, s2⟩ hTt rfl
      obtain ⟨z, ez, rfl, mz⟩ := z_nth hv
      have s3 := Same.upd (o := .tup [.int (i : Nat), .ref z.1]) s2 (s2.free hTt)
      have hz3 := s3 _ _ (hz z mz)
      have il : i < zs.length := (List.getElem?_eq_some_iff.mp ez).1
      have t1 := ok.t1 z.2 (hmem i z ez)
      have v0 := ok.v0 z.2 (hmem i z ez)
      have et := take_z ez
      have ge : 0 ≤ z.2.1 ∧ lastT 0 (zS (zs.take i)) < z.2.1 := by
        have e : zS zs = zS (zs.take i) ++ (z.2.1, z.2.2) :: zS (zs.drop (i + 1)) := by
          have il := (List.getElem?_eq_some_iff.mp ez)
          have h : zs = zs.take i ++ z :: zs.drop (i + 1) := by
            have := List.take_append_drop i zs
            rw [List.drop_eq_getElem_cons il.1, il.2] at this
            exact this.symm
          unfold zS
          exact (congrArg (List.map (·.2)) h).trans (by rw [List.map_append, List.map_cons])
        have srt := ok.srt
        rw [e] at srt
        obtain ⟨m1, m2, m3⟩ := srt.mid
        exact ⟨by omega, last_lt srt.left m2 m3⟩
      have el : lastT 0 (zS (zs.take (i + 1))) = z.2.1 := by rw [et]; exact lastT_push _ _ _ _
      refine ⟨Tt, _, rfl, SqT.of upd_same, rfl, _, _, rfl, _, _, rfl, rfl, ?_⟩
      refine ⟨_, rfl, z.1, z.2, rfl, hz3, ge.1, t1, v0.1, v0.2, ⟨_, rfl, iteF ?_⟩⟩
      refine ⟨_, rfl, z.1, _, _, _, rfl, rfl, SqT.of hz3, rfl, _, rfl, _, _, rfl, rfl, _, rfl, ifD (fun c => absurd c (by omega)) (fun _ => ?_)⟩
      refine ⟨_, rfl, z.1, _, _, _, rfl, rfl, SqT.of hz3, rfl, some (.int (i : Nat)), some (.ref z.1), ?_, s3⟩
      rw [el]; rfl
    · rintro σ H2 ⟨v2, v3, rfl, s2⟩
      exact k _ s2
end
end VK


namespace VK
open PySem PySem.Spec PyProof.Rows L2 VM
open VD (SqB)
/-- the attributes of a supply -/
def sfs (c : Int) (lc ls : Addr) (la : Int) : List (Str × V) := [("_first", V.int c), ("_changes", V.ref lc), ("_sums", V.ref ls), ("_last", V.int la)]
theorem m_fc : ¬ (("_first" : Str) = "_changes") := by decide +kernel
theorem m_fs : ¬ (("_first" : Str) = "_sums") := by decide +kernel
theorem m_fl : ¬ (("_first" : Str) = "_last") := by decide +kernel
theorem m_cs : ¬ (("_changes" : Str) = "_sums") := by decide +kernel
theorem m_cl : ¬ (("_changes" : Str) = "_last") := by decide +kernel
theorem m_sl : ¬ (("_sums" : Str) = "_last") := by decide +kernel
theorem putS1 (v : V) : putF "_first" v [] = [(("_first" : Str), v)] := rfl
theorem putS2 (v u : V) : putF "_changes" u [(("_first" : Str), v)] = [(("_first" : Str), v), ("_changes", u)] := by
  simp only [putF, if_neg m_fc]
theorem putS3 (v u y : V) : putF "_sums" y [(("_first" : Str), v), ("_changes", u)] = [(("_first" : Str), v), ("_changes", u), ("_sums", y)] := by
  simp only [putF, if_neg m_fs, if_neg m_cs]
theorem putS4 (v u y z : V) : putF "_last" z [(("_first" : Str), v), ("_changes", u), ("_sums", y)] = [(("_first" : Str), v), ("_changes", u), ("_sums", y), ("_last", z)] := by
  simp only [putF, if_neg m_fl, if_neg m_cl, if_neg m_sl]
theorem lk_ne {a b : Str} {v : V} {r : List (Str × V)} (h : ¬ a = b) : ((b, v) :: r).lookup a = r.lookup a := by
  have e : (a == b) = false := by simpa using h
  simp only [List.lookup, e]
theorem lk_eq {a : Str} {v : V} {r : List (Str × V)} : ((a, v) :: r).lookup a = some v := by simp [List.lookup]
theorem sfs_f (c : Int) (lc ls : Addr) (la : Int) : (sfs c lc ls la).lookup ("_first" : Str) = some (.int c) := lk_eq
theorem sfs_c (c : Int) (lc ls : Addr) (la : Int) : (sfs c lc ls la).lookup ("_changes" : Str) = some (.ref lc) := (lk_ne (fun h => m_fc h.symm)).trans lk_eq
theorem sfs_s (c : Int) (lc ls : Addr) (la : Int) : (sfs c lc ls la).lookup ("_sums" : Str) = some (.ref ls) := (lk_ne (fun h => m_fs h.symm)).trans ((lk_ne (fun h => m_cs h.symm)).trans lk_eq)
theorem sfs_l (c : Int) (lc ls : Addr) (la : Int) : (sfs c lc ls la).lookup ("_last" : Str) = some (.int la) := (lk_ne (fun h => m_fl h.symm)).trans ((lk_ne (fun h => m_cl h.symm)).trans ((lk_ne (fun h => m_sl h.symm)).trans lk_eq))
theorem sfs_no (c : Int) (lc ls : Addr) (la : Int) {m : Str} (h1 : ¬ m = "_first") (h2 : ¬ m = "_changes") (h3 : ¬ m = "_sums") (h4 : ¬ m = "_last") : (sfs c lc ls la).lookup m = none :=
  (lk_ne h1).trans ((lk_ne h2).trans ((lk_ne h3).trans ((lk_ne h4).trans rfl)))
/-- a supply: a first value and steps -/
def SpAt (A : Ad) (r : Addr) (H : Hp) (x : Addr) (c : Int) (S : List Stp) : Prop := ∃ dx lc ls, H x = some (.ins A.Supply dx (sfs c lc ls (lastV c S))) ∧ StL r H lc (keptS c S) ∧
  H ls = some (.lst ((rowP (atF c S) ((lastT 0 (keptS c S)).toNat + 1)).map V.int)) ∧ x ≠ r ∧ ls ≠ r ∧ Stps S
theorem SpAt.same {A : Ad} {r : Addr} {H H' : Hp} {x : Addr} {c : Int} {S : List Stp} (h : SpAt A r H x c S) (s : Same H H') : SpAt A r H' x c S := by
  obtain ⟨dx, lc, ls, h1, h2, h3, h4, h5, h6⟩ := h
  exact ⟨dx, lc, ls, s _ _ h1, h2.same s, s _ _ h3, h4, h5, h6⟩
theorem StL.ext {r : Addr} {H H' : Hp} {l : Addr} {S : List Stp} (h : StL r H l S) (e : Ext r H H') : StL r H' l S := by
  obtain ⟨zs, h1, h2, h3, h4⟩ := h
  exact ⟨zs, e.keep _ _ h4 h1, fun z hz => ⟨e.keep _ _ (h2 z hz).2 (h2 z hz).1, (h2 z hz).2⟩, h3, h4⟩
theorem SpAt.ext {A : Ad} {r : Addr} {H H' : Hp} {x : Addr} {c : Int} {S : List Stp} (h : SpAt A r H x c S) (e : Ext r H H') : SpAt A r H' x c S := by
  obtain ⟨dx, lc, ls, h1, h2, h3, h4, h5, h6⟩ := h
  exact ⟨dx, lc, ls, e.keep _ _ h4 h1, h2.ext e, e.keep _ _ h5 h3, h4, h5, h6⟩
theorem lastV_kept {S : List Stp} : ∀ {c : Int}, lastV c (keptS c S) = lastV c S := by
  induction S with
  | nil => intros; rfl
  | cons z S ih =>
    obtain ⟨s, a⟩ := z
    intro c
    show lastV c (keptS c ((s, a) :: S)) = lastV a S
    unfold keptS
    split
    · exact ih
    · rename_i h
      have h : a = c := by simpa using h
      subst h
      exact ih
theorem lastT_le {S : List Stp} : ∀ {b m : Int}, b ≤ m → (∀ z ∈ S, z.1 ≤ m) → lastT b S ≤ m := by
  induction S with
  | nil => intro b m h _; exact h
  | cons z S ih => intro b m _ h; exact ih (h z (List.mem_cons_self ..)) fun y hy => h y (List.mem_cons_of_mem _ hy)
theorem PS_bd {f : Int → Int} (h : ∀ t : Int, 0 ≤ f t ∧ f t ≤ 20) : ∀ n : Nat, 0 ≤ PS f n ∧ PS f n ≤ 20 * n
  | 0 => ⟨Int.le_refl _, Int.le_refl _⟩
  | n + 1 => by
    have a := PS_bd h n
    have b := h n
    show 0 ≤ PS f n + f n ∧ PS f n + f n ≤ _
    omega
theorem Stps.atb {S : List Stp} (h : Stps S) {c : Int} (h0 : 0 ≤ c) (h1 : c ≤ 20) (t : Int) : 0 ≤ atF c S t ∧ atF c S t ≤ 20 := by
  have v := h.v0
  clear h
  induction S generalizing c with
  | nil => exact ⟨h0, h1⟩
  | cons z S ih =>
    obtain ⟨s, a⟩ := z
    have va := v (s, a) (List.mem_cons_self ..)
    show 0 ≤ atF (if s ≤ t then a else c) S t ∧ _
    refine ih (c := if s ≤ t then a else c) ?_ ?_ fun y hy => v y (List.mem_cons_of_mem _ hy)
    · split; exact va.1; exact h0
    · split; exact va.2; exact h1
theorem dp_steps {K : PySem.W.Frag} {H : Hp} {zs : List (Addr × Stp)} (h : StH H zs) : DpAll K H (zV zs) ((zS zs).map fun z => PyData.tuple [.int z.1, .int z.2]) := by
  induction zs with
  | nil => exact .nil
  | cons z zs ih =>
    exact .cons (.tup (SqT.of (h z (List.mem_cons_self ..))) (.cons (.int _) (.cons (.int _) .nil))) (ih fun y hy => h y (List.mem_cons_of_mem _ hy))
def dSt (S : List Stp) : PyData := .list (S.map fun z => PyData.tuple [.int z.1, .int z.2])
theorem shaped_steps (S : List Stp) : SeqAt.shaped (dSt S) = true := by
  have a : ∀ S : List Stp, PyData.canLayAll0 (S.map fun z => PyData.tuple [.int z.1, .int z.2]) = true := by
    intro S
    induction S with
    | nil => rfl
    | cons u us ih =>
      simp only [List.map_cons, PyData.canLayAll0, ih, Bool.and_true]
      rfl
  have b : ∀ S : List Stp, PyData.depthAll (S.map fun z => PyData.tuple [.int z.1, .int z.2]) ≤ 2 := by
    intro S
    induction S with
    | nil => exact Nat.zero_le _
    | cons u us ih =>
      simp only [List.map_cons, PyData.depthAll, PyData.depth]
      omega
  have c := b S
  refine Bool.and_eq_true_iff.mpr ⟨?_, decide_eq_true ?_⟩
  · unfold dSt; simp only [PyData.canLay0]; exact a S
  · unfold dSt; simp only [PyData.depth]; omega
theorem eqv_steps (S R : List Stp) : PyData.eqv (dSt S) (dSt R) = decide (S = R) := by
  have a : ∀ S R : List Stp, PyData.eqvAll (S.map fun z => PyData.tuple [.int z.1, .int z.2]) (R.map fun z => PyData.tuple [.int z.1, .int z.2]) = decide (S = R) := by
    intro S
    induction S with
    | nil =>
      intro R
      cases R with
      | nil => rfl
      | cons w ws => rfl
    | cons u us ih =>
      intro R
      cases R with
      | nil => rfl
      | cons w ws =>
        simp only [List.map_cons, PyData.eqvAll, ih]
        obtain ⟨u1, u2⟩ := u
        obtain ⟨w1, w2⟩ := w
        by_cases h1 : u1 = w1 <;> by_cases h2 : u2 = w2 <;> by_cases h3 : us = ws <;> simp [PyData.eqv, PyData.eqvAll, h1, h2, h3]
  unfold dSt
  simp only [PyData.eqv]
  exact a S R
def sp_Supply_init (K : PySem.W.Frag) (A : Ad) : Sp := fun vs H Q _ => ∃ (x dx l : Addr) (c : Int) (S : List Stp), vs = [.ref x, .int c, .ref l] ∧ H x = some (.ins A.Supply dx []) ∧ StB K H l S ∧ Stps S ∧ 0 ≤ c ∧ c ≤ 20 ∧
  ∀ H', (∀ b o, b ≠ x → H b = some o → H' b = some o) → (∀ a, H a ≠ none → a ≠ x → SpAt A a H' x c S) → Q .non H'
def sp_Supplybefore (_ : PySem.W.Frag) (A : Ad) : Sp := fun vs H Q _ => ∃ (r x : Addr) (c : Int) (S : List Stp) (t : Nat), vs = [.ref x, .int t] ∧ SpAt A r H x c S ∧ t ≤ 1000000 ∧ 0 ≤ c ∧ c ≤ 20 ∧ Q (.int (PS (atF c S) t)) H
def sp_Supply_at (_ : PySem.W.Frag) (A : Ad) : Sp := fun vs H Q _ => ∃ (r x : Addr) (c : Int) (S : List Stp) (t : Int), vs = [.ref x, .int t] ∧ SpAt A r H x c S ∧ 0 ≤ t ∧ t ≤ 1000 ∧ 0 ≤ c ∧ c ≤ 20 ∧ Q (.int (atF c S t)) H
def sp_Supply_between (_ : PySem.W.Frag) (A : Ad) : Sp := fun vs H Q _ => ∃ (r x : Addr) (c : Int) (S : List Stp) (a d : Nat), vs = [.ref x, .int a, .int ((a + d : Nat) : Int)] ∧ SpAt A r H x c S ∧ 0 < d ∧ a + d ≤ 1000000 ∧ 0 ≤ c ∧ c ≤ 20 ∧
  Q (.int (((List.range d).map fun i : Nat => atF c S ((a : Int) + i)).sum)) H
def sp_Supply_changes (_ : PySem.W.Frag) (A : Ad) : Sp := fun vs H Q _ => ∃ (r x : Addr) (c : Int) (S : List Stp), vs = [.ref x] ∧ SpAt A r H x c S ∧
  ∀ H' q, Same H H' → H q = none → (∀ a, H a ≠ none → q ≠ a) → (∃ zs, H' q = some (.lst (zV zs)) ∧ (∀ z ∈ zs, H' z.1 = some (.tup (stV z.2)) ∧ z.1 ≠ r) ∧ zS zs = keptS c S) → Q (.ref q) H'
def sp_Supply_eq (K : PySem.W.Frag) (A : Ad) : Sp := fun vs H Q _ => ∃ (r x : Addr) (c : Int) (S : List Stp) (v : V), vs = [.ref x, v] ∧ SpAt A r H x c S ∧
  ((∃ (r2 y : Addr) (c2 : Int) (S2 : List Stp), v = .ref y ∧ SpAt A r2 H y c2 S2 ∧ Q (.bl (decide (c = c2) && decide (keptS c S = keptS c2 S2))) H) ∨
    ∃ n, TyX K H v (.type n) ∧ n ∈ VN.kinds ∧ Q (.bl false) H)
section
variable {P : Program} {w : World} {K : PySem.W.Frag} {mg : Str → Option Value} {base : Heap} {A : Ad}
theorem ok_Supply_init (T : Txt K mg A) : FnOk P w K mg base CX0 6 A.f_Supply_init A.d_Supply_init ["self", "capacity", "changes"] (sp_Supply_init K A) := by
  have G_find_wrong_change := ok_find_wrong_change (P := P) (w := w) (base := base) T
  have G_kept_changes := ok_kept_changes (P := P) (w := w) (base := base) T
  have G_require_count_to := ok_require_count_to (P := P) (w := w) (base := base) T
  have G_sums_to_last := ok_sums_to_last (P := P) (w := w) (base := base) T
  refine T.F_Supply_init.ok sc_Supply_init (fun vs H Q E h => ?_) (fun cdv A0 outer s H vs Q E hr h => ?_)
  · obtain ⟨x, dx, l, c, S, rfl, hx, hB, ok, c0, c1, k⟩ := h
    rfl
  · obtain ⟨x, dx, l, c, S, rfl, hx, hB, ok, c0, c1, k⟩ := h
    refine ⟨_, (pss_cons (ps_expr (pe_call G_require_count_to (hr.mono (by decide)) rfl T.m_require_count_to T.k_require_count_to T.b_require_count_to .nil pass0 (pa_cons (pv 1) (pa_cons (pe_glob (v := .int 20) rfl T.v_MAX_CAPACITY ⟨_, rfl⟩) pa_nil))))
    (pss_cons (ps_set (i := 3) sc_Supply_init.nd rfl (by first | exact Or.inl rfl | exact Or.inr rfl) (pe_call G_find_wrong_change (hr.mono (by decide)) rfl T.m_find_wrong_change T.k_find_wrong_change T.b_find_wrong_change .nil pass0 (pa_cons (pv 2) pa_nil)))
    (pss_cons (ps_if (pt_cmp (pc_notN (pv 3)) rfl) (pss_one ps_never) pss_nil)
    (pss_cons (ps_fld (pv 0) (pv 1) rfl)
    (pss_cons (ps_fld (pv 0) (pe_call G_kept_changes (hr.mono (by decide)) rfl T.m_kept_changes T.k_kept_changes T.b_kept_changes .nil pass0 (pa_cons (pv 1) (pa_cons (pv 2) pa_nil))) rfl)
    (pss_cons (ps_fld (pv 0) (pe_call G_sums_to_last (hr.mono (by decide)) rfl T.m_sums_to_last T.k_sums_to_last T.b_sums_to_last .nil pass0 (pa_cons (pv 1) (pa_cons (pe_fld (pv 0) rfl) pa_nil))) rfl)
    (pss_one (ps_fld (pv 0) (pe_ifExp (pt_truth (pe_fld (pv 0) rfl) (fun _ => rfl)) (pe_ix (r := rIxT K) ix_tup (pe_ix (r := rIxL K) ix_list (pe_fld (pv 0) rfl) (pe_un un_neg pe_int) (fun _ _ => rfl)) pe_int (fun _ _ => rfl)) (pv 1)) rfl)))))))), ?_⟩
    refine ⟨_, rfl, c, 20, rfl, c0, c1, ?_⟩
    refine ⟨_, rfl, l, S, rfl, hB, ok, fun H1 s1 => ?_⟩
    refine ⟨_, rfl, _, rfl, iteF ?_⟩
    have hx1 := s1 _ _ hx
    have hB1 := (hB.same s1).put (o := .ins A.Supply dx [("_first", .int c)]) hx1
    refine ⟨_, rfl, _, rfl, x, _, dx, _, rfl, hx1, T.clSupply, T.n_first, (by show 0 < 1000; decide), ?_⟩
    rw [putS1]
    have a1 : upd H1 x (.ins A.Supply dx [("_first", .int c)]) x = some (.ins A.Supply dx [("_first", .int c)]) := upd_same
    have k1 : ∀ b o, b ≠ x → H b = some o → upd H1 x (.ins A.Supply dx [("_first", .int c)]) b = some o := fun b o hb e => by rw [upd_ne hb]; exact s1 _ _ e
    generalize upd H1 x (.ins A.Supply dx [("_first", .int c)]) = A1 at *
    refine ⟨_, rfl, _, rfl, l, c, S, rfl, hB1, ok, fun H2 kk zs s2 hk0 hk hz e2 => ?_⟩
    have hx2 := s2 _ _ a1
    have nkx : kk ≠ x := fun z => by rw [z, a1] at hk0; cases hk0
    have nzx : ∀ z ∈ zs, z.1 ≠ x := fun z hz1 e => by have := (hz z hz1).1; rw [e, a1] at this; cases this
    refine ⟨_, rfl, x, _, dx, _, rfl, hx2, T.clSupply, T.n_changes, (by show 1 < 1000; decide), ?_⟩
    rw [putS2]
    have a2 : upd H2 x (.ins A.Supply dx [("_first", .int c), ("_changes", .ref kk)]) x = some (.ins A.Supply dx [("_first", .int c), ("_changes", .ref kk)]) := upd_same
    have k2 : ∀ b o, b ≠ x → H2 b = some o → upd H2 x (.ins A.Supply dx [("_first", .int c), ("_changes", .ref kk)]) b = some o := fun b o hb e => by rw [upd_ne hb]; exact e
    generalize upd H2 x (.ins A.Supply dx [("_first", .int c), ("_changes", .ref kk)]) = A2 at *
    have hB2 : StB K A2 kk (keptS c S) := ⟨zs, .inl (SqL.of (k2 _ _ nkx hk)), fun z hz1 => k2 _ _ (nzx z hz1) (hz z hz1).2, e2⟩
    refine ⟨_, rfl, _, rfl, x, _, dx, _, _, rfl, a2, T.clSupply, T.n_changes, (lk_ne (fun h => m_fc h.symm)).trans lk_eq, kk, c, keptS c S, rfl, hB2, ok.kept c, fun H3 ks s3 hs0 hs => ?_⟩
    have hx3 := s3 _ _ a2
    have nsx : ks ≠ x := fun z => by rw [z, a2] at hs0; cases hs0
    refine ⟨_, rfl, x, _, dx, _, rfl, hx3, T.clSupply, T.n_sums, (by show 2 < 1000; decide), ?_⟩
    rw [putS3]
    have a3 : upd H3 x (.ins A.Supply dx [("_first", .int c), ("_changes", .ref kk), ("_sums", .ref ks)]) x = some (.ins A.Supply dx [("_first", .int c), ("_changes", .ref kk), ("_sums", .ref ks)]) := upd_same
    have k3 : ∀ b o, b ≠ x → H3 b = some o → upd H3 x (.ins A.Supply dx [("_first", .int c), ("_changes", .ref kk), ("_sums", .ref ks)]) b = some o := fun b o hb e => by rw [upd_ne hb]; exact e
    generalize upd H3 x (.ins A.Supply dx [("_first", .int c), ("_changes", .ref kk), ("_sums", .ref ks)]) = A3 at *
    have kk3 : ∀ b o, b ≠ x → H2 b = some o → A3 b = some o := fun b o hb e => k3 _ _ hb (s3 _ _ (k2 _ _ hb e))
    have hk3 := kk3 _ _ nkx hk
    have hfun : ∀ t, atF c (keptS c S) t = atF c S t := keptS_at ok.srt
    have hs' : H3 ks = some (.lst ((rowP (atF c S) ((lastT 0 (keptS c S)).toNat + 1)).map V.int)) := by
      have e : atF c (keptS c S) = atF c S := funext hfun
      rw [e] at hs
      exact hs
    have fin : Q .non (upd A3 x (.ins A.Supply dx (sfs c kk ks (lastV c S)))) := by
      refine k _ (fun b o hb e => by rw [upd_ne hb]; exact kk3 _ _ hb (s2 _ _ (k1 _ _ hb e))) fun a ha nax => ?_
      have hA1 : A1 a ≠ none := fun z => ha (by
        cases e : H a with
        | none => rfl
        | some o => rw [k1 _ _ nax e] at z; cases z)
      refine ⟨dx, kk, ks, upd_same, ⟨zs, by rw [upd_ne nkx]; exact hk3, fun z hz1 => ⟨by rw [upd_ne (nzx z hz1)]; exact kk3 _ _ (nzx z hz1) (hz z hz1).2, fun e => hA1 (e ▸ (hz z hz1).1)⟩, e2, fun e => hA1 (e ▸ hk0)⟩, by rw [upd_ne nsx]; exact k3 _ _ nsx hs', Ne.symm nax, fun e => ?_, ok⟩
      have : A2 a ≠ none := fun z => by
        cases e3 : A1 a with
        | none => exact hA1 e3
        | some o => rw [k2 _ _ nax (s2 _ _ e3)] at z; cases z
      exact this (e ▸ hs0)
    have ne : ∀ (P : Prop), (zs = [] → P) → (zs ≠ [] → P) → P := fun P a b => by
      by_cases z : zs = []
      · exact a z
      · exact b z
    refine ⟨_, rfl, x, _, dx, _, _, rfl, a3, T.clSupply, T.n_changes, (lk_ne (fun h => m_fc h.symm)).trans lk_eq, _, .inl ⟨_, SqL.of hk3, rfl⟩, ?_⟩
    refine ne _ (fun z => ?_) (fun z => ?_)
    · subst z
      refine iteF ⟨_, rfl, _, rfl, x, _, dx, _, rfl, a3, T.clSupply, T.n_last, (by show 3 < 1000; decide), ?_⟩
      rw [putS4]
      have e : lastV c S = c := by rw [← lastV_kept, ← e2]; rfl
      rw [e] at fin
      exact fin
    · obtain ⟨zs0, y, rfl⟩ : ∃ zs0 y, zs = zs0 ++ [y] := ⟨zs.dropLast, zs.getLast z, (List.dropLast_concat_getLast z).symm⟩
      have em : (!(zV (zs0 ++ [y])).isEmpty) = true := by unfold zV; simp
      rw [em]
      refine iteT ?_
      have hy := kk3 _ _ (nzx y (by simp)) (hz y (by simp)).2
      have ea : atI (zV (zs0 ++ [y])) (-1) = some (.ref y.1) := by
        unfold atI ixN
        rw [if_neg (by decide), zV_length, List.length_append, List.length_singleton, if_pos (by omega), show (-1 + ((zs0.length + 1 : Nat) : Int)).toNat = zs0.length by omega]
        show (zV (zs0 ++ [y]))[zs0.length]? = _
        unfold zV
        rw [List.getElem?_map, List.getElem?_append_right (Nat.le_refl _), Nat.sub_self]
        rfl
      refine ⟨_, rfl, x, _, dx, _, _, rfl, a3, T.clSupply, T.n_changes, (lk_ne (fun h => m_fc h.symm)).trans lk_eq, _, rfl, kk, _, _, _, rfl, rfl, SqL.of hk3, ea, y.1, _, _, _, rfl, rfl, SqT.of hy, rfl, _, rfl, x, _, dx, _, rfl, a3, T.clSupply, T.n_last, (by show 3 < 1000; decide), ?_⟩
      rw [putS4]
      have e : lastV c S = y.2.2 := by
        rw [← lastV_kept, ← e2]
        unfold zS
        rw [List.map_append]
        exact lastV_push _ _ _ _
      rw [e] at fin
      exact fin
theorem ok_Supplybefore (T : Txt K mg A) : FnOk P w K mg base CX0 1 A.f_Supplybefore A.d_Supplybefore ["self", "tick"] (sp_Supplybefore K A) := by
  refine T.F_Supplybefore.ok sc_Supplybefore (fun vs H Q E h => ?_) (fun cdv A0 outer s H vs Q E hr h => ?_)
  · obtain ⟨r, x, c, S, t, rfl, ⟨dx, lc, ls, hx, hL, hs, nx, ns, ok⟩, tb, c0, c1, q⟩ := h
    rfl
  · obtain ⟨r, x, c, S, t, rfl, ⟨dx, lc, ls, hx, hL, hs, nx, ns, ok⟩, tb, c0, c1, q⟩ := h
    refine ⟨_, (pss_cons (ps_set (i := 2) sc_Supplybefore.nd rfl (by first | exact Or.inl rfl | exact Or.inr rfl) (pe_op op_sub (pe_callB (r := VG.rLen K) VG.call_len (by rfl) T.len (by decide +kernel) (pa_cons (pe_fld (pv 0) rfl) pa_nil)) pe_int))
    (pss_cons (ps_if (pt_cmpR op_le (pv 1) (pv 2) (nomark _)) (pss_one (ps_ret (pe_ix (r := rIxL K) ix_list (pe_fld (pv 0) rfl) (pv 1) (fun _ _ => rfl)))) pss_nil)
    (pss_one (ps_ret (pe_op op_add (pe_ix (r := rIxL K) ix_list (pe_fld (pv 0) rfl) (pv 2) (fun _ _ => rfl)) (pe_op op_mul (pe_op op_sub (pv 1) (pv 2)) (pe_fld (pv 0) rfl))))))), ?_⟩
    have hb : (lastT 0 (keptS c S)) ≤ 1000 := lastT_le (by decide) (ok.kept c).t1
    have h0 : 0 ≤ lastT 0 (keptS c S) := lastT_ge (ok.kept c).srt
    generalize hL : (lastT 0 (keptS c S)).toNat = L at *
    have far : ∀ u : Int, (L : Int) ≤ u → atF c S u = lastV c S := fun u hu => by
      rw [← keptS_at ok.srt, at_last (ok.kept c).srt (by omega), lastV_kept]
    have ab := ok.atb c0 c1
    refine ⟨_, rfl, x, _, dx, _, _, rfl, hx, T.clSupply, T.n_sums, sfs_s _ _ _ _, ls, _, rfl, .inl (SqL.of hs), _, _, rfl, rfl, ?_⟩
    rw [List.length_map, rowP_length]
    refine ⟨_, rfl, _, rfl, _, _, rfl, rfl, _, rfl, ifD (fun cc => ?_) (fun cc => ?_)⟩
    · refine ⟨_, rfl, x, _, dx, _, _, rfl, hx, T.clSupply, T.n_sums, sfs_s _ _ _ _, _, rfl, ls, _, _, _, rfl, rfl, SqL.of hs, at_map (by omega) (by rw [rowP_length]; omega), ?_⟩
      rw [rowP_getD (by omega), Int.toNat_natCast]
      exact q
    · refine ⟨_, rfl, x, _, dx, _, _, rfl, hx, T.clSupply, T.n_sums, sfs_s _ _ _ _, _, rfl, ls, _, _, _, rfl, rfl, SqL.of hs, at_map (by omega) (by rw [rowP_length]; omega), ?_⟩
      have la := far L (Int.le_refl _)
      have lb := ab L
      rw [la] at lb
      refine ⟨_, rfl, _, rfl, _, _, rfl, rfl, _, rfl, x, _, dx, _, _, rfl, hx, T.clSupply, T.n_last, sfs_l _ _ _ _, _, _, rfl, rfl, .inl ⟨by omega, by omega⟩, _, _, rfl, rfl, ?_⟩
      rw [rowP_getD (by omega), show (((L + 1 : Nat) : Int) - 1).toNat = L by omega]
      have e := PS_far far (t - L)
      rw [show L + (t - L) = t by omega] at e
      show Q (.int (PS (atF c S) L + ((t : Int) - (((L + 1 : Nat) : Int) - 1)) * lastV c S)) H
      rw [show (t : Int) - (((L + 1 : Nat) : Int) - 1) = ((t - L : Nat) : Int) by omega, ← e]
      exact q
theorem ok_Supply_changes (T : Txt K mg A) : FnOk P w K mg base CX0 1 A.f_Supply_changes A.d_Supply_changes ["self"] (sp_Supply_changes K A) := by
  refine T.F_Supply_changes.ok sc_Supply_changes (fun vs H Q E h => ?_) (fun cdv A0 outer s H vs Q E hr h => ?_)
  · obtain ⟨r, x, c, S, rfl, ⟨dx, lc, ls, hx, ⟨zs, h1, h2, h3, h4⟩, hs, nx, ns, ok⟩, k⟩ := h
    rfl
  · obtain ⟨r, x, c, S, rfl, ⟨dx, lc, ls, hx, ⟨zs, h1, h2, h3, h4⟩, hs, nx, ns, ok⟩, k⟩ := h
    refine ⟨_, (pss_one (ps_ret (pe_callTy (r := VG.rListOf K) VG.call_listOf (by rfl) T.list (by decide +kernel) (pa_cons (pe_fld (pv 0) rfl) pa_nil)))), ?_⟩
    refine ⟨_, rfl, x, _, dx, _, _, rfl, hx, T.clSupply, T.n_changes, sfs_c _ _ _ _, lc, _, rfl, .inl (SqL.of h1), fun q hq => ?_⟩
    exact k _ q (Same.upd (Same.refl _) hq) hq (fun a ha e => ha (e ▸ hq)) ⟨zs, upd_same, fun z hz => ⟨Same.upd (Same.refl _) hq _ _ (h2 z hz).1, (h2 z hz).2⟩, h3⟩
theorem ok_Supply_eq (T : Txt K mg A) : FnOk P w K mg base CX0 1 A.f_Supply_eq A.d_Supply_eq ["self", "other"] (sp_Supply_eq K A) := by
  refine T.F_Supply_eq.ok sc_Supply_eq (fun vs H Q E h => ?_) (fun cdv A0 outer s H vs Q E hr h => ?_)
  · obtain ⟨r, x, c, S, v, rfl, ⟨dx, lc, ls, hx, ⟨zs, h1, h2, h3, h4⟩, hs, nx, ns, ok⟩, k⟩ := h
    rfl
  · obtain ⟨r, x, c, S, v, rfl, ⟨dx, lc, ls, hx, ⟨zs, h1, h2, h3, h4⟩, hs, nx, ns, ok⟩, k⟩ := h
    refine ⟨_, (pss_one (ps_ret (pe_and (pe_callB (r := rIsi K) call_isi (by rfl) T.isinstance (by decide +kernel) (pa_cons (pv 1) (pa_cons (pe_glob (v := .ref A.Supply) rfl T.m_Supply rfl) pa_nil))) (pe_and (pe_cmpR op_eq (pe_fld (pv 0) rfl) (pe_fld (pv 1) rfl) (nomark _)) (pe_one (pe_cmpR (op_eqD hr.units) (pe_fld (pv 0) rfl) (pe_fld (pv 1) rfl) (nomark _))))))), ?_⟩
    rcases k with ⟨r2, y, c2, S2, rfl, ⟨dy, lc2, ls2, hy, ⟨zs2, g1, g2, g3, g4⟩, hs2, ny, ns2, ok2⟩, q⟩ | ⟨n, ty, hn, q⟩
    · refine ⟨_, rfl, _, _, _, _, _, rfl, .own _, T.ic_Supply.typ T.clSupply hy, VN.kit_self, _, rfl, iteT ?_⟩
      refine ⟨_, rfl, x, _, dx, _, _, rfl, hx, T.clSupply, T.n_first, sfs_f _ _ _ _, _, rfl, y, _, dy, _, _, rfl, hy, T.clSupply, T.n_first, sfs_f _ _ _ _, rfl, _, rfl, ifEq (fun e => ?_) (fun e => ?_)⟩
      · rw [decide_eq_true e, Bool.true_and] at q
        refine ⟨_, rfl, x, _, dx, _, _, rfl, hx, T.clSupply, T.n_changes, sfs_c _ _ _ _, _, rfl, y, _, dy, _, _, rfl, hy, T.clSupply, T.n_changes, sfs_c _ _ _ _, dSt (zS zs), dSt (zS zs2), .lst (SqL.of h1) (dp_steps fun z hz => (h2 z hz).1), .lst (SqL.of g1) (dp_steps fun z hz => (g2 z hz).1), shaped_steps _, shaped_steps _, ?_⟩
        rw [eqv_steps, h3, g3]
        exact q
      · rw [decide_eq_false e, Bool.false_and] at q
        exact q
    · exact ⟨_, rfl, _, _, _, _, _, rfl, .own _, ty, VN.kit_no T.ic_Supply hn, _, rfl, iteF q⟩
end
end VK


namespace VK
open PySem PySem.Spec PyProof.Rows L2 VM
open VD (SqB)
theorem kb_at1 {K : PySem.W.Frag} {mg : Str → Option Value} {A : Ad} (T : Txt K mg A) : KBn K A.d_Supply_at ["self", "tick"] 1 ["tick"] (fun us ws => us ++ ws) (fun vs zs => vs ++ zs) :=
  VG.kb_of T.F_Supply_at (fun us ws => us ++ ws) (fun a c => a.append c) (fun kV doc pm an cdv ct us ws h1 h2 => match us, ws, h1, h2 with | [_], [_], _, _ => rfl)
theorem kb_bt {K : PySem.W.Frag} {mg : Str → Option Value} {A : Ad} (T : Txt K mg A) : KBn K A.d_Supply_between ["self", "start", "end"] 1 ["end", "start"] (fun us ws => us ++ (ws.drop 1 ++ ws.take 1)) (fun vs zs => vs ++ (zs.drop 1 ++ zs.take 1)) :=
  VG.kb_of T.F_Supply_between (fun us ws => us ++ (ws.drop 1 ++ ws.take 1)) (fun a c => a.append ((c.drop 1).append (c.take 1))) (fun kV doc pm an cdv ct us ws h1 h2 => match us, ws, h1, h2 with | [_], [_, _], _, _ => rfl)
/-- steps as the law draws them -/
structure Drw (S : List Stp) : Prop where
  ok : Stps S
  few : S.length ≤ 8
  t9 : ∀ z ∈ S, z.1 ≤ 960
def sp_l_changes (_ : PySem.W.Frag) (_ : Ad) : Sp := fun vs H Q _ => ∃ (r : Addr) (m : Int), vs = [.ref r, .int m] ∧ Rng H r ∧ 0 ≤ m ∧ m ≤ 20 ∧
  ∀ H' l S, Ext r H H' → H l = none → StL r H' l S → Drw S → Q (.ref l) H'
def sp_l_at (K : PySem.W.Frag) (_ : Ad) : Sp := fun vs H Q _ => ∃ (l : Addr) (c t : Int) (S : List Stp), vs = [.int c, .ref l, .int t] ∧ (∃ zs, SqL K H l (zV zs) ∧ StH H zs ∧ zS zs = S) ∧ S.length ≤ 1000 ∧ ∀ H', Same H H' → Q (.int (atF c S t)) H'
def sp_l_real (K : PySem.W.Frag) (_ : Ad) : Sp := fun vs H Q _ => ∃ (l : Addr) (c : Int) (S : List Stp), vs = [.int c, .ref l] ∧ (∃ zs, SqL K H l (zV zs) ∧ StH H zs ∧ zS zs = S) ∧ S.length ≤ 1000 ∧
  ∀ H' k zs, Same H H' → H k = none → H' k = some (.lst (zV zs)) → (∀ z ∈ zs, H z.1 = none ∧ H' z.1 = some (.tup (stV z.2))) → zS zs = keptS c S → Q (.ref k) H'
def tickS (d : Int) (S : List Stp) : List Int := [0, 1, d] ++ (S.map fun z => [z.1 - 1, z.1, z.1 + 1]).flatten
theorem tick_push (d : Int) (S : List Stp) (z : Stp) : tickS d (S ++ [z]) = tickS d S ++ [z.1 - 1, z.1, z.1 + 1] := by
  unfold tickS
  rw [List.map_append, List.flatten_append, ← List.append_assoc]
  rfl
theorem tick_len (d : Int) (S : List (Addr × Stp)) : (tickS d (zS S)).length = 3 + 3 * S.length := by
  unfold tickS zS
  rw [List.length_append]
  induction S with
  | nil => rfl
  | cons z S ih =>
    simp only [List.map_cons, List.flatten_cons, List.length_append, List.length_cons, List.length_nil] at ih ⊢
    omega
theorem Ext.put {r l : Addr} {H H' : Hp} {o : HO} (e : Ext r H H') (h : H l = none) (n : l ≠ r) : Ext r H (upd H' l o) := by
  refine ⟨fun b u hb q => ?_, ?_⟩
  · rw [upd_ne (ne_of_none q h)]; exact e.keep b u hb q
  · obtain ⟨a1, a2, a3, a4⟩ := e.rng
    exact ⟨a1, a2, by rw [upd_ne (Ne.symm n)]; exact a3, a4⟩
theorem Ext.new {r q : Addr} {H H' : Hp} {o : HO} (e : Ext r H H') (h : H' q = none) : Ext r H (upd H' q o) := e.same (Same.upd (Same.refl _) h)
def sp_l_ticks (K : PySem.W.Frag) (_ : Ad) : Sp := fun vs H Q _ => ∃ (r l : Addr) (S : List Stp), vs = [.ref r, .ref l] ∧ Rng H r ∧ StL r H l S ∧ S.length ≤ 1000 ∧
  ∀ H' k d, Ext r H H' → H k = none → 0 ≤ d → d ≤ 1000 → H' k = some (.lst ((tickS d S).map V.int)) → Q (.ref k) H'
section
variable {P : Program} {w : World} {K : PySem.W.Frag} {mg : Str → Option Value} {base : Heap} {A : Ad}
theorem ok_Supply_at (T : Txt K mg A) : FnOk P w K mg base CX0 5 A.f_Supply_at A.d_Supply_at ["self", "tick"] (sp_Supply_at K A) := by
  have G_Supplybefore := ok_Supplybefore (P := P) (w := w) (base := base) T
  have G_require_tick := ok_require_tick (P := P) (w := w) (base := base) T
  refine T.F_Supply_at.ok sc_Supply_at (fun vs H Q E h => ?_) (fun cdv A0 outer s H vs Q E hr h => ?_)
  · obtain ⟨r, x, c, S, t, rfl, hS, t0, t1, c0, c1, q⟩ := h
    rfl
  · obtain ⟨r, x, c, S, t, rfl, hS, t0, t1, c0, c1, q⟩ := h
    refine ⟨_, (pss_cons (ps_expr (pe_call G_require_tick (hr.mono (by decide)) rfl T.m_require_tick T.k_require_tick T.b_require_tick .nil pass0 (pa_cons (pv 1) pa_nil)))
    (pss_one (ps_ret (pe_op op_sub (pe_meth (pv 0) T.clSupply T.me__before G_Supplybefore (hr.mono (by decide)) T.b_Supplybefore .nil pass0 (pa_cons (pe_op op_add (pv 1) pe_int) pa_nil)) (pe_meth (pv 0) T.clSupply T.me__before G_Supplybefore (hr.mono (by decide)) T.b_Supplybefore .nil pass0 (pa_cons (pv 1) pa_nil)))))), ?_⟩
    obtain ⟨dx, lc, ls, hx, _⟩ := id hS
    refine ⟨_, rfl, t, rfl, t0, t1, ?_⟩
    have no : (sfs c lc ls (lastV c S)).lookup ("_before" : Str) = none := sfs_no _ _ _ _ (by decide +kernel) (by decide +kernel) (by decide +kernel) (by decide +kernel)
    refine ⟨_, rfl, x, dx, _, rfl, hx, no, _, rfl, _, _, rfl, rfl, r, x, c, S, t.toNat + 1, (by rw [show ((t.toNat + 1 : Nat) : Int) = t + 1 by omega]; rfl), hS, by omega, c0, c1, ?_⟩
    refine ⟨_, rfl, x, dx, _, rfl, hx, no, _, rfl, r, x, c, S, t.toNat, (by rw [show ((t.toNat : Nat) : Int) = t by omega]; rfl), hS, by omega, c0, c1, _, _, rfl, rfl, ?_⟩
    show Q (.int (PS (atF c S) t.toNat + atF c S t.toNat - PS (atF c S) t.toNat)) H
    rw [show PS (atF c S) t.toNat + atF c S t.toNat - PS (atF c S) t.toNat = atF c S t.toNat by omega, show ((t.toNat : Nat) : Int) = t by omega]
    exact q
theorem ok_Supply_between (T : Txt K mg A) : FnOk P w K mg base CX0 5 A.f_Supply_between A.d_Supply_between ["self", "start", "end"] (sp_Supply_between K A) := by
  have G_Supplybefore := ok_Supplybefore (P := P) (w := w) (base := base) T
  have G_require_window := ok_require_window (P := P) (w := w) (base := base) T
  refine T.F_Supply_between.ok sc_Supply_between (fun vs H Q E h => ?_) (fun cdv A0 outer s H vs Q E hr h => ?_)
  · obtain ⟨r, x, c, S, a, d, rfl, hS, d0, ad, c0, c1, q⟩ := h
    rfl
  · obtain ⟨r, x, c, S, a, d, rfl, hS, d0, ad, c0, c1, q⟩ := h
    refine ⟨_, (pss_cons (ps_expr (pe_call G_require_window (hr.mono (by decide)) rfl T.m_require_window T.k_require_window T.b_require_window .nil pass0 (pa_cons (pv 1) (pa_cons (pv 2) pa_nil))))
    (pss_one (ps_ret (pe_op op_sub (pe_meth (pv 0) T.clSupply T.me__before G_Supplybefore (hr.mono (by decide)) T.b_Supplybefore .nil pass0 (pa_cons (pv 2) pa_nil)) (pe_meth (pv 0) T.clSupply T.me__before G_Supplybefore (hr.mono (by decide)) T.b_Supplybefore .nil pass0 (pa_cons (pv 1) pa_nil)))))), ?_⟩
    obtain ⟨dx, lc, ls, hx, _⟩ := id hS
    refine ⟨_, rfl, _, rfl, _, _, rfl, by omega, by omega, ?_⟩
    have no : (sfs c lc ls (lastV c S)).lookup ("_before" : Str) = none := sfs_no _ _ _ _ (by decide +kernel) (by decide +kernel) (by decide +kernel) (by decide +kernel)
    refine ⟨_, rfl, x, dx, _, rfl, hx, no, _, rfl, r, x, c, S, a + d, rfl, hS, by omega, c0, c1, ?_⟩
    refine ⟨_, rfl, x, dx, _, rfl, hx, no, _, rfl, r, x, c, S, a, rfl, hS, by omega, c0, c1, _, _, rfl, rfl, ?_⟩
    rw [PS_sum] at q
    exact q
theorem ok_l_at (T : Txt K mg A) : FnOk P w K mg base CX0 1 A.f_l_at A.d_l_at ["_law_many", "_law_steps", "_law_now"] (sp_l_at K A) := by
  refine T.F_l_at.ok sc_l_at (fun vs H Q E h => ?_) (fun cdv A0 outer s H vs Q E hr h => ?_)
  · obtain ⟨l, c, t, S, rfl, ⟨zs, hq, hz, rfl⟩, len, k⟩ := h
    rfl
  · obtain ⟨l, c, t, S, rfl, ⟨zs, hq, hz, rfl⟩, len, k⟩ := h
    refine ⟨_, (pss_one (ps_ret (pe_ix (r := rIxL K) ix_list (pe_op op_cat (pe_lst (pa_cons (pv 0) pa_nil)) (pe_lc (own := [("_law_since", 3), ("_law_other", 4)]) (g := gTup K 2 (gCons (gName 3) (gCons (gName 4) gNil))) rfl sc_l_at.nd (pi_list (pv 1)) (blkOk_by (own := [("_law_since", 3), ("_law_other", 4)]) (N := ["_law_many", "_law_steps", "_law_now", "_law_since", "_law_other"]) (sc := defScope s_l_at) (by decide +kernel)) (fun _ _ _ _ _ => pg_tup rfl (pgs_cons (pg_name (i := 3) sc_l_at.nd rfl (by first | exact Or.inl rfl | exact Or.inr rfl)) (pgs_cons (pg_name (i := 4) sc_l_at.nd rfl (by first | exact Or.inl rfl | exact Or.inr rfl)) pgs_nil))) (fun _ _ _ _ _ => (pts_one (pt_cmpR op_le (pv 3) (pv 2) (nomark _)))) (fun _ _ _ _ _ => (pv 4)))) (pe_un un_neg pe_int) (fun _ _ => rfl)))), ?_⟩
    refine ⟨_, rfl, (by show 1 ≤ sizeLine; decide), fun q0 hq0 => ?_⟩
    have s1 := Same.upd (o := .lst [.int c]) (Same.refl H) hq0
    have q01 : upd H q0 (.lst [.int c]) q0 = some (.lst [.int c]) := upd_same
    generalize upd H q0 (.lst [.int c]) = H1 at *
    refine ⟨_, rfl, l, rfl, ⟨_, s1.seq hq⟩, fun D hD => ?_⟩
    have pz : (zV zs).length = zs.length := zV_length
    rw [zS_length] at len
    refine lc_list (K := K) (a := l) (xs := zV zs) (fun j H' => H' D = some (.lst ((((zS (zs.take j)).filter fun z => decide (z.1 ≤ t)).map (·.2)).map V.int)) ∧ Same H1 H') ⟨upd_same, Same.upd (Same.refl _) hD⟩ (fun i H' _ h => h.2.seq (s1.seq hq)) ?_ ?_
    · rintro j v H2 hv ⟨hD2, s2⟩
      obtain ⟨z, ez, rfl, mz⟩ := z_nth hv
      have hz2 := s2 _ _ (s1 _ _ (hz z mz))
      have et := take_z ez
      have fl : (((zS (zs.take j)).filter fun z => decide (z.1 ≤ t)).map (·.2)).length ≤ 1000 := by
        rw [List.length_map]
        have a := List.length_filter_le (fun z : Stp => decide (z.1 ≤ t)) (zS (zs.take j))
        rw [zS_length, List.length_take] at a
        omega
      refine ⟨z.1, _, rfl, SqT.of hz2, rfl, _, _, rfl, _, _, rfl, rfl, rfl, _, rfl, _, rfl, _, _, rfl, rfl, _, rfl, ifD (fun cc => ?_) (fun cc => ?_)⟩
      · refine ⟨_, rfl, _, hD2, small (by rw [List.length_map]; omega), ?_, Same.upd s2 hD⟩
        rw [upd_same, et, List.filter_append, List.filter_cons_of_pos (by simpa using cc), List.map_append, List.map_append]
        rfl
      · refine ⟨?_, s2⟩
        rw [hD2, et, List.filter_append, List.filter_cons_of_neg (by simpa using cc)]
        simp
    rintro H2 ⟨hD2, s2⟩
    rw [pz, List.take_length] at hD2
    have fl : (((zS zs).filter fun z => decide (z.1 ≤ t)).map (·.2)).length ≤ 1000 := by
      rw [List.length_map]
      have a := List.length_filter_le (fun z : Stp => decide (z.1 ≤ t)) (zS zs)
      rw [zS_length] at a
      omega
    refine ⟨q0, D, _, _, rfl, rfl, s2 _ _ q01, hD2, (by rw [List.length_map, sizeLine_eq]; show 1 + _ ≤ _; omega), fun q3 hq3 => ?_⟩
    have e3 : upd H2 q3 (.lst (([.int c] : List V) ++ (((zS zs).filter fun z => decide (z.1 ≤ t)).map (·.2)).map V.int)) q3 = some (.lst ((c :: ((zS zs).filter fun z => decide (z.1 ≤ t)).map (·.2)).map V.int)) := upd_same
    refine ⟨_, rfl, q3, _, _, _, rfl, rfl, SqL.of e3, at_back (by decide) (by rw [List.length_cons]; omega), ?_⟩
    have e := atF_filter c t (zS zs)
    rw [List.getLast_eq_getElem] at e
    have e4 : (c :: ((zS zs).filter fun z => decide (z.1 ≤ t)).map (·.2)).getD (-1 + ((c :: ((zS zs).filter fun z => decide (z.1 ≤ t)).map (·.2)).length : Int)).toNat 0 = atF c (zS zs) t := by
      rw [e, List.getD_eq_getElem?_getD, show (-1 + ((c :: ((zS zs).filter fun z => decide (z.1 ≤ t)).map (·.2)).length : Int)).toNat = (c :: ((zS zs).filter fun z => decide (z.1 ≤ t)).map (·.2)).length - 1 by omega, List.getElem?_eq_getElem (by rw [List.length_cons]; omega)]
      rfl
    rw [e4]
    exact k _ ((s1.trans s2).trans (Same.upd (Same.refl _) hq3))
theorem ok_l_real (T : Txt K mg A) : FnOk P w K mg base CX0 1 A.f_l_real A.d_l_real ["_law_many", "_law_steps"] (sp_l_real K A) := by
  refine T.F_l_real.ok sc_l_real (fun vs H Q E h => ?_) (fun cdv A0 outer s H vs Q E hr h => ?_)
  · obtain ⟨l, c, S, rfl, ⟨zs, hq, hz, rfl⟩, len, k⟩ := h
    rfl
  · obtain ⟨l, c, S, rfl, ⟨zs, hq, hz, rfl⟩, len, k⟩ := h
    refine ⟨_, (pss_cons (ps_par (i := 2) (j := 3) (by rfl) sc_l_real.nd rfl rfl (by decide) rfl rfl (pa_cons (pe_lst pa_nil) (pa_cons (pv 0) pa_nil)) (by rfl))
    (pss_cons (ps_for PassesOwn.never rfl (pi_list (pv 1)) (pg_tup rfl (pgs_cons (pg_name (i := 4) sc_l_real.nd rfl (by first | exact Or.inl rfl | exact Or.inr rfl)) (pgs_cons (pg_name (i := 5) sc_l_real.nd rfl (by first | exact Or.inl rfl | exact Or.inr rfl)) pgs_nil)))
      (pss_cons (ps_if (pt_cmpR op_ne (pv 5) (pv 3) (nomark _)) (pss_one (ps_expr (pe_bm PySem.F.plainAttrs_list PySem.F.slot_list_append PySem.F.type_list_append mt_append (pv 2) (pa_cons (pe_tup (pa_cons (pv 4) (pa_cons (pv 5) pa_nil))) pa_nil)))) pss_nil)
    (pss_one (ps_set (i := 3) sc_l_real.nd rfl (by first | exact Or.inl rfl | exact Or.inr rfl) (pv 5)))))
    (pss_one (ps_ret (pv 2))))), ?_⟩
    refine ⟨(by show 0 ≤ sizeLine; decide), fun q hq0 => ⟨_, rfl, _, _, rfl, ?_⟩⟩
    have s1 := Same.upd (o := .lst []) (Same.refl H) hq0
    have q1 : upd H q (.lst []) q = some (.lst (zV [])) := upd_same
    generalize upd H q (.lst []) = H1 at *
    refine ⟨_, rfl, l, rfl, ⟨_, s1.seq hq⟩, ?_⟩
    refine for_list (K := K) (a := l) (xs := zV zs) (fun i σ H' => ∃ v4 v5 ks, σ = [some (.int c), some (.ref l), some (.ref q), some (.int (lastV c (zS (zs.take i)))), v4, v5] ∧ Same H H' ∧ H' q = some (.lst (zV ks)) ∧ zS ks = keptS c (zS (zs.take i)) ∧ ∀ z ∈ ks, H z.1 = none ∧ z.1 ≠ q ∧ H' z.1 = some (.tup (stV z.2)))
      ⟨_, _, [], rfl, s1, q1, rfl, fun z h => by cases h⟩ (fun i σ H' _ ⟨_, _, _, _, s, _⟩ => s.seq hq) ?_ ?_
    · rintro i v σ H2 hv ⟨v4, v5, ks, rfl, s2, q2, e2, kz⟩
      obtain ⟨z, ez, rfl, mz⟩ := z_nth hv
      have hz2 := s2 _ _ (hz z mz)
      have il : i < zs.length := (List.getElem?_eq_some_iff.mp ez).1
      refine ⟨z.1, _, rfl, SqT.of hz2, rfl, _, _, rfl, _, _, rfl, rfl, ?_⟩
      have et := take_z ez
      have el : ks.length ≤ 1000 := by
        have a := congrArg List.length e2
        rw [zS_length] at a
        have b := keptS_len (c := c) (S := zS (zs.take i))
        have d : (zS (zs.take i)).length ≤ i := by rw [zS_length, List.length_take]; omega
        have f := len
        rw [zS_length] at f
        omega
      refine ⟨_, rfl, _, rfl, rfl, _, rfl, ?_⟩
      have nxt : (zs.take (i + 1)).length = i + 1 := by rw [List.length_take]; omega
      have ek : keptS c (zS (zs.take (i + 1))) = keptS c (zS (zs.take i)) ++ keptS (lastV c (zS (zs.take i))) [z.2] := by rw [et, keptS_app]
      have ev : lastV c (zS (zs.take (i + 1))) = z.2.2 := by rw [et]; exact lastV_push _ _ _ _
      refine ifNe (fun c1 => ?_) (fun c1 => ?_)
      · refine ⟨_, rfl, .inl ⟨rfl, _, SqL.of q2⟩, _, rfl, _, rfl, (by show 2 ≤ sizeLine; decide), fun t ht => ?_⟩
        have nqt : q ≠ t := ne_of_none q2 ht
        refine ⟨q, _, _, rfl, rfl, by rw [upd_ne nqt]; exact q2, small (by rw [zV_length]; omega), ?_⟩
        refine ⟨_, rfl, some (.int z.2.1), some (.int z.2.2), ks ++ [(t, z.2)], ?_, ?_, ?_, ?_, ?_⟩
        · rw [ev]; rfl
        · intro b o h
          rw [upd_ne (ne_of_none h hq0), upd_ne (ne_of_none (s2 _ _ h) ht)]
          exact s2 _ _ h
        · rw [upd_same]; unfold zV; rw [List.map_append]; rfl
        · rw [ek, ← e2]
          unfold keptS
          rw [if_pos c1]
          unfold zS
          rw [List.map_append]
          rfl
        · intro y hy
          rcases List.mem_append.mp hy with hy | hy
          · obtain ⟨y1, y2, y3⟩ := kz y hy
            exact ⟨y1, y2, by rw [upd_ne y2, upd_ne (ne_of_none y3 ht)]; exact y3⟩
          · cases List.mem_singleton.mp hy
            exact ⟨s2.free ht, Ne.symm nqt, by rw [upd_ne (Ne.symm nqt), upd_same]; rfl⟩
      · refine ⟨_, rfl, some (.int z.2.1), some (.int z.2.2), ks, ?_, s2, q2, ?_, kz⟩
        · rw [ev]; rfl
        · rw [ek, ← e2]
          unfold keptS
          rw [if_neg (by simpa using c1)]
          unfold keptS
          rw [List.append_nil]
    · rintro σ H2 ⟨v4, v5, ks, rfl, s2, q2, e2, kz⟩
      rw [zV_length, List.take_length] at e2
      exact ⟨_, rfl, k H2 q ks s2 hq0 q2 (fun z hz => ⟨(kz z hz).1, (kz z hz).2.2⟩) e2⟩
theorem ok_l_ticks (T : Txt K mg A) : FnOk P w K mg base CX0 3 A.f_l_ticks A.d_l_ticks ["_law_rng_here", "_law_steps"] (sp_l_ticks K A) := by
  have G_l_draw := ok_l_draw (P := P) (w := w) (base := base) T
  refine T.F_l_ticks.ok sc_l_ticks (fun vs H Q E h => ?_) (fun cdv A0 outer s H vs Q E hr h => ?_)
  · obtain ⟨r, l, S, rfl, hr0, ⟨zs, hl, hz, rfl, nl⟩, len, k⟩ := h
    rfl
  · obtain ⟨r, l, S, rfl, hr0, ⟨zs, hl, hz, rfl, nl⟩, len, k⟩ := h
    refine ⟨_, (pss_cons (ps_set (i := 2) sc_l_ticks.nd rfl (by first | exact Or.inl rfl | exact Or.inr rfl) (pe_lst (pa_cons pe_int (pa_cons pe_int (pa_cons (pe_call G_l_draw (hr.mono (by decide)) rfl T.m_l_draw T.k_l_draw T.b_l_draw .nil pass0 (pa_cons (pv 0) (pa_cons pe_int pa_nil))) pa_nil)))))
    (pss_cons (ps_for PassesOwn.never rfl (pi_list (pv 1)) (pg_tup rfl (pgs_cons (pg_name (i := 3) sc_l_ticks.nd rfl (by first | exact Or.inl rfl | exact Or.inr rfl)) (pgs_cons (pg_name (i := 4) sc_l_ticks.nd rfl (by first | exact Or.inl rfl | exact Or.inr rfl)) pgs_nil)))
      (pss_one (ps_set (i := 2) sc_l_ticks.nd rfl (by first | exact Or.inl rfl | exact Or.inr rfl) (pe_op op_cat (pv 2) (pe_lst (pa_cons (pe_op op_sub (pv 3) pe_int) (pa_cons (pv 3) (pa_cons (pe_op op_add (pv 3) pe_int) pa_nil))))))))
    (pss_one (ps_ret (pv 2))))), ?_⟩
    refine ⟨_, rfl, r, _, rfl, hr0, by decide, by decide, fun H1 d e1 d0 d1 => ?_⟩
    refine ⟨(by show 3 ≤ sizeLine; decide), fun q hq => ?_⟩
    have hl1 := e1.keep _ _ nl hl
    have hz1 : ∀ z ∈ zs, H1 z.1 = some (.tup (stV z.2)) := fun z h => e1.keep _ _ (hz z h).2 (hz z h).1
    rw [zS_length] at len
    refine ⟨_, rfl, l, rfl, ⟨_, SqL.of (Same.upd (Same.refl _) hq _ _ hl1)⟩, ?_⟩
    refine for_list (K := K) (a := l) (xs := zV zs) (fun i σ H' => ∃ v3 v4 q', σ = [some (.ref r), some (.ref l), some (.ref q'), v3, v4] ∧ Same H1 H' ∧ H q' = none ∧ H' q' = some (.lst ((tickS d (zS (zs.take i))).map V.int)))
      ⟨_, _, q, rfl, Same.upd (Same.refl _) hq, e1.free hq, upd_same⟩ (fun i σ H' _ ⟨_, _, _, _, s, _⟩ => SqL.of (s _ _ hl1)) ?_ ?_
    · rintro i v σ H2 hv ⟨v3, v4, q', rfl, s2, q0, q2⟩
      obtain ⟨z, ez, rfl, mz⟩ := z_nth hv
      have hz2 := s2 _ _ (hz1 z mz)
      have et := take_z ez
      have il : i < zs.length := (List.getElem?_eq_some_iff.mp ez).1
      refine ⟨z.1, _, rfl, SqT.of hz2, rfl, _, _, rfl, _, _, rfl, rfl, ?_⟩
      refine ⟨_, rfl, _, rfl, _, _, rfl, rfl, _, rfl, _, rfl, _, _, rfl, rfl, (by show 3 ≤ sizeLine; decide), fun p hp => ?_⟩
      have s3 := Same.upd (o := .lst [.int (z.2.1 - 1), .int z.2.1, .int (z.2.1 + 1)]) (Same.refl H2) hp
      have tl : (tickS d (zS (zs.take i))).length = 3 + 3 * (zs.take i).length := tick_len _ _
      rw [List.length_take] at tl
      refine ⟨q', p, _, _, rfl, rfl, s3 _ _ q2, upd_same, (by rw [List.length_map, tl, sizeLine_eq]; show _ + 3 ≤ _; omega), fun p2 hp2 => ?_⟩
      have s4 := s3.trans (Same.upd (o := .lst ((tickS d (zS (zs.take i))).map V.int ++ [.int (z.2.1 - 1), .int z.2.1, .int (z.2.1 + 1)])) (Same.refl _) hp2)
      refine ⟨_, _, p2, rfl, s2.trans s4, e1.free ((s2.trans s3).free hp2), ?_⟩
      rw [upd_same, et, tick_push, List.map_append]
      rfl
    · rintro σ H2 ⟨v3, v4, q', rfl, s2, q0, q2⟩
      rw [zV_length, List.take_length] at q2
      exact ⟨_, rfl, k H2 q' d (e1.same s2) q0 d0 (by omega) q2⟩
theorem ok_l_changes (T : Txt K mg A) : FnOk P w K mg base CX0 4 A.f_l_changes A.d_l_changes ["_law_rng_here", "_law_many"] (sp_l_changes K A) := by
  have G_l_choice := ok_l_choice (P := P) (w := w) (base := base) T
  have G_l_draw := ok_l_draw (P := P) (w := w) (base := base) T
  refine T.F_l_changes.ok sc_l_changes (fun vs H Q E h => ?_) (fun cdv A0 outer s H vs Q E hr h => ?_)
  · obtain ⟨r, m, rfl, hr0, m0, m1, k⟩ := h
    rfl
  · obtain ⟨r, m, rfl, hr0, m0, m1, k⟩ := h
    refine ⟨_, (pss_cons (ps_par3 (i := 2) (j := 3) (l := 4) (by rfl) sc_l_changes.nd rfl rfl rfl (by decide) (by decide) (by decide) rfl rfl rfl (pa_cons (pe_lst pa_nil) (pa_cons pe_int (pa_cons (pv 1) pa_nil))) (by rfl))
    (pss_cons (ps_set (i := 5) sc_l_changes.nd rfl (by first | exact Or.inl rfl | exact Or.inr rfl) (pe_call G_l_choice (hr.mono (by decide)) rfl T.m_l_choice T.k_l_choice T.b_l_choice .nil pass0 (pa_cons (pv 0) (pa_cons (pe_lst (pa_cons pe_int (pa_cons pe_int (pa_cons pe_int pa_nil)))) pa_nil))))
    (pss_cons (ps_for PassesOwn.never rfl (pi_range1 rfl T.range (pa_cons (pe_call G_l_draw (hr.mono (by decide)) rfl T.m_l_draw T.k_l_draw T.b_l_draw .nil pass0 (pa_cons (pv 0) (pa_cons pe_int pa_nil))) pa_nil)) (pg_name (i := 6) sc_l_changes.nd rfl (by first | exact Or.inl rfl | exact Or.inr rfl))
      (pss_cons (ps_set (i := 3) sc_l_changes.nd rfl (by first | exact Or.inl rfl | exact Or.inr rfl) (pe_op op_add (pe_op op_add (pv 3) pe_int) (pe_call G_l_draw (hr.mono (by decide)) rfl T.m_l_draw T.k_l_draw T.b_l_draw .nil pass0 (pa_cons (pv 0) (pa_cons (pv 5) pa_nil)))))
    (pss_cons (ps_set (i := 4) sc_l_changes.nd rfl (by first | exact Or.inl rfl | exact Or.inr rfl) (pe_call G_l_choice (hr.mono (by decide)) rfl T.m_l_choice T.k_l_choice T.b_l_choice .nil pass0 (pa_cons (pv 0) (pa_cons (pe_lst (pa_cons (pv 4) (pa_cons (pe_call G_l_draw (hr.mono (by decide)) rfl T.m_l_draw T.k_l_draw T.b_l_draw .nil pass0 (pa_cons (pv 0) (pa_cons pe_int pa_nil))) pa_nil))) pa_nil))))
    (pss_one (ps_expr (pe_bm PySem.F.plainAttrs_list PySem.F.slot_list_append PySem.F.type_list_append mt_append (pv 2) (pa_cons (pe_tup (pa_cons (pv 3) (pa_cons (pv 4) pa_nil))) pa_nil)))))))
    (pss_one (ps_ret (pv 2)))))), ?_⟩
    refine ⟨(by show 0 ≤ sizeLine; decide), fun l hl => ?_⟩
    have nlr := hr0.ne hl
    have e0 := (Ext.refl hr0).put (o := .lst []) hl nlr
    have hl1 : upd H l (.lst []) l = some (.lst (zV [])) := upd_same
    generalize upd H l (.lst []) = H1 at *
    refine ⟨_, rfl, _, _, _, rfl, ?_⟩
    refine ⟨_, rfl, (by show 3 ≤ sizeLine; decide), fun q hq => ?_⟩
    have e1 := e0.new (o := .lst [.int 3, .int 30, .int 120]) hq
    have hl2 : upd H1 q (.lst [.int 3, .int 30, .int 120]) l = some (.lst (zV [])) := by rw [upd_ne (ne_of_none hl1 hq)]; exact hl1
    refine ⟨r, q, _, rfl, e1.rng, SqL.of upd_same, e0.rng.ne hq, by decide, by decide, fun H2 v e2 hv => ?_⟩
    have hl3 := e2.keep _ _ nlr hl2
    have e02 := e1.trans e2
    obtain ⟨far, rfl, f0, f1⟩ : ∃ far : Int, v = .int far ∧ 0 < far ∧ far ≤ 120 := by
      simp only [List.mem_cons, List.not_mem_nil, or_false] at hv
      rcases hv with rfl | rfl | rfl
      · exact ⟨3, rfl, by decide, by decide⟩
      · exact ⟨30, rfl, by decide, by decide⟩
      · exact ⟨120, rfl, by decide, by decide⟩
    clear e1 e2 hl2 hq e0 hl1 hv
    refine ⟨_, rfl, r, _, rfl, e02.rng, by decide, by decide, fun H3 n_ e3 n0 n1 => ?_⟩
    have hl4 := e3.keep _ _ nlr hl3
    have e03 := e02.trans e3
    refine ⟨_, rfl, by omega, by omega, ?_⟩
    refine for_range (lo := 0) (n := n_.toNat) (fun i σ H' => ∃ (v6 : Option V) (zs : List (Addr × Stp)) (now bef : Int), σ = [some (.ref r), some (.int m), some (.ref l), some (.int now), some (.int bef), some (.int far), v6] ∧ Ext r H H' ∧ H' l = some (.lst (zV zs)) ∧ zs.length = i ∧
        (∀ z ∈ zs, H' z.1 = some (.tup (stV z.2)) ∧ z.1 ≠ r ∧ z.1 ≠ l) ∧ Srt 0 (zS zs) ∧ (∀ z ∈ zS zs, z.1 ≤ now ∧ 0 ≤ z.2 ∧ z.2 ≤ 20) ∧ 0 ≤ now ∧ now ≤ 120 * i ∧ 0 ≤ bef ∧ bef ≤ 20)
      ⟨_, [], 0, m, rfl, e03, hl4, rfl, fun z h => (by cases h), trivial, fun z h => (by cases h), by decide, by decide, m0, m1⟩ ?_ ?_
    · rintro i σ H4 hi ⟨v6, zs, now, bef, rfl, e4, hl5, zl, hz, srt, vs, w0, w1, b0, b1⟩
      have i8 : i < 8 := by omega
      refine ⟨_, rfl, _, _, rfl, rfl, _, rfl, _, rfl, r, _, rfl, e4.rng, f0, by omega, fun H5 d e5 d0 d1 => ?_⟩
      refine ⟨_, _, rfl, rfl, ?_⟩
      have e05 := e4.trans e5
      refine ⟨_, rfl, _, rfl, _, rfl, r, _, rfl, e05.rng, by decide, by decide, fun H6 u e6 u0 u1 => ?_⟩
      have e06 := e05.trans e6
      refine ⟨(by show 2 ≤ sizeLine; decide), fun q hq => ?_⟩
      have e07 := e06.new (o := .lst [.int bef, .int u]) hq
      refine ⟨r, q, _, rfl, e07.rng, SqL.of upd_same, e06.rng.ne hq, by show 0 < 2; decide, by show 2 < _; decide, fun H7 v e7 hv => ?_⟩
      obtain ⟨b', rfl, b'0, b'1⟩ : ∃ b' : Int, v = .int b' ∧ 0 ≤ b' ∧ b' ≤ 20 := by
        simp only [List.mem_cons, List.not_mem_nil, or_false] at hv
        rcases hv with rfl | rfl
        · exact ⟨bef, rfl, b0, b1⟩
        · exact ⟨u, rfl, u0, by omega⟩
      have e47 : Ext r H4 H7 := ((e5.trans e6).new (o := .lst [.int bef, .int u]) hq).trans e7
      have hl7 := e47.keep _ _ nlr hl5
      have e08 := e4.trans e47
      refine ⟨_, rfl, .inl ⟨rfl, _, SqL.of hl7⟩, _, rfl, _, rfl, (by show 2 ≤ sizeLine; decide), fun t ht => ?_⟩
      have nlt : l ≠ t := ne_of_none hl7 ht
      refine ⟨l, _, _, rfl, rfl, by rw [upd_ne nlt]; exact hl7, small (by rw [zV_length]; omega), ?_⟩
      refine ⟨_, zs ++ [(t, (now + 1 + d, b'))], now + 1 + d, b', rfl, (e08.new ht).put hl nlr, by rw [upd_same]; unfold zV; rw [List.map_append]; rfl, by rw [List.length_append, zl]; rfl, fun z h => ?_, ?_, fun z h => ?_, by omega, by omega, b'0, b'1⟩
      · rcases List.mem_append.mp h with h | h
        · obtain ⟨h1, h2, h3⟩ := hz z h
          exact ⟨by rw [upd_ne h3, upd_ne (ne_of_none (e47.keep _ _ h2 h1) ht)]; exact e47.keep _ _ h2 h1, h2, h3⟩
        · cases List.mem_singleton.mp h
          exact ⟨by rw [upd_ne (Ne.symm nlt), upd_same]; rfl, e08.rng.ne ht, Ne.symm nlt⟩
      · unfold zS
        rw [List.map_append]
        exact srt.push (fun z hz => by have := (vs z hz).1; omega) (by omega)
      · unfold zS at h
        rw [List.map_append] at h
        rcases List.mem_append.mp h with h | h
        · have := vs z h; omega
        · cases List.mem_singleton.mp h
          exact ⟨Int.le_refl _, b'0, b'1⟩
    · rintro σ H4 ⟨v6, zs, now, bef, rfl, e4, hl5, zl, hz, srt, vs, w0, w1, b0, b1⟩
      have n8 : n_.toNat ≤ 8 := by omega
      refine ⟨_, rfl, k H4 l (zS zs) e4 hl ⟨zs, hl5, fun z h => ⟨(hz z h).1, (hz z h).2.1⟩, rfl, nlr⟩ ⟨⟨srt, fun z h => by have := (vs z h).1; omega, fun z h => (vs z h).2, by rw [zS_length]; omega⟩, by rw [zS_length]; omega, fun z h => by have := (vs z h).1; omega⟩⟩
end
end VK


namespace VK
open PySem PySem.Spec PyProof.Rows L2 VM
open VD (SqB)
theorem tick_bd {d : Int} {S : List Stp} (h : Drw S) (d0 : 0 ≤ d) (d1 : d ≤ 1000) : ∀ t ∈ tickS d S, 0 ≤ t ∧ t ≤ 1000 := fun t ht => by
  unfold tickS at ht
  rcases List.mem_append.mp ht with ht | ht
  · simp only [List.mem_cons, List.not_mem_nil, or_false] at ht
    omega
  · obtain ⟨l, hl, hm⟩ := List.mem_flatten.mp ht
    obtain ⟨z, hz, rfl⟩ := List.mem_map.mp hl
    have a := h.ok.srt.gt z hz
    have b := h.t9 z hz
    simp only [List.mem_cons, List.not_mem_nil, or_false] at hm
    omega
theorem tick_len' (d : Int) (S : List Stp) : (tickS d S).length = 3 + 3 * S.length := by
  unfold tickS
  rw [List.length_append]
  induction S with
  | nil => rfl
  | cons z S ih =>
    simp only [List.map_cons, List.flatten_cons, List.length_append, List.length_cons, List.length_nil] at ih ⊢
    omega
theorem steps_sz {S : List Stp} (h : Stps S) : (dSt S).showable = true ∧ (dSt S).depth ≤ 60 ∧ (dSt S).shown.length ≤ sizeLine := by
  have z : VR.Sz 2 (((101 + 2) * 2 + 3 + 2) * 1000 + 3) (dSt S) := by
    refine VR.Sz.list (k := 1) (L := (101 + 2) * 2 + 3) (n := 1000) (fun d hd => ?_) (by rw [List.length_map]; exact h.len)
    obtain ⟨z, hz, rfl⟩ := List.mem_map.mp hd
    have a := h.srt.gt z hz
    have b := h.t1 z hz
    have v := h.v0 z hz
    have big : (1000 : Nat) < 10 ^ 100 := by decide +kernel
    refine VR.Sz.tuple (k := 0) (L := 101) (n := 2) (fun d hd => ?_) (by simp)
    simp only [List.mem_cons, List.not_mem_nil, or_false] at hd
    rcases hd with rfl | rfl
    · exact VR.Sz.int (Nat.lt_of_le_of_lt (show z.1.natAbs ≤ 1000 by omega) big)
    · exact VR.Sz.int (Nat.lt_of_le_of_lt (show z.2.natAbs ≤ 1000 by omega) big)
  exact ⟨z.sh, Nat.le_trans z.dp (by decide), Nat.le_trans z.ln (by rw [sizeLine_eq]; decide)⟩
theorem take_map {f : Int → Int} {ts : List Int} {i : Nat} (h : i < ts.length) : (ts.take (i + 1)).map f = (ts.take i).map f ++ [f (ts.getD i 0)] := by
  rw [List.take_add_one, List.getElem?_eq_getElem h, List.map_append, List.getD_eq_getElem?_getD, List.getElem?_eq_getElem h]
  rfl
def sp_l_asked (_ : PySem.W.Frag) (A : Ad) : Sp := fun vs H Q _ => ∃ (r x l : Addr) (c : Int) (S : List Stp), vs = [.ref r, .ref x, .int c, .ref l] ∧ Rng H r ∧ SpAt A r H x c S ∧ StL r H l S ∧ Drw S ∧ 0 ≤ c ∧ c ≤ 20 ∧
  ∀ H', Ext r H H' → Q (.bl true) H'
section
variable {P : Program} {w : World} {K : PySem.W.Frag} {mg : Str → Option Value} {base : Heap} {A : Ad}
theorem StL.law {r : Addr} {H : Hp} {l : Addr} {S : List Stp} (h : StL r H l S) : ∃ zs, SqL K H l (zV zs) ∧ StH H zs ∧ zS zs = S := by
  obtain ⟨zs, h1, h2, h3, h4⟩ := h
  exact ⟨zs, SqL.of h1, fun z hz => (h2 z hz).1, h3⟩
theorem ok_l_asked (T : Txt K mg A) : VG.FnG P w K mg base CX0 6 A.f_l_asked A.d_l_asked ["_law_rng_here", "_law_supply", "_law_many", "_law_steps"] (sp_l_asked K A) := by
  have G_Supply_at := ok_Supply_at (P := P) (w := w) (base := base) T
  have G_Supply_between := ok_Supply_between (P := P) (w := w) (base := base) T
  have G_Supply_changes := ok_Supply_changes (P := P) (w := w) (base := base) T
  have G_l_at := ok_l_at (P := P) (w := w) (base := base) T
  have G_l_choice := ok_l_choice (P := P) (w := w) (base := base) T
  have G_l_draw := ok_l_draw (P := P) (w := w) (base := base) T
  have G_l_real := ok_l_real (P := P) (w := w) (base := base) T
  have G_l_ticks := ok_l_ticks (P := P) (w := w) (base := base) T
  have kb_Supply_at_tick := kb_at1 T
  have kb_Supply_between_end_start := kb_bt T
  refine VG.okG0 T.F_l_asked sc_l_asked (fun vs H Q E h => ?_) (fun cdv A0 outer s H vs Q E hA hr h => ?_)
  · obtain ⟨r, x, l, c, S, rfl, hr0, X, L, D, c0, c1, k⟩ := h
    rfl
  · obtain ⟨r, x, l, c, S, rfl, hr0, X, L, D, c0, c1, k⟩ := h
    refine ⟨_, (pss_cons (ps_set (i := 4) sc_l_asked.nd rfl (by first | exact Or.inl rfl | exact Or.inr rfl) (pe_call G_l_ticks (hr.mono (by decide)) rfl T.m_l_ticks T.k_l_ticks T.b_l_ticks .nil pass0 (pa_cons (pv 0) (pa_cons (pv 3) pa_nil))))
    (pss_cons (ps_setLc (i := 5) (own := [("_law_now", 10)]) (g := gName 10) (tt := tYes) rfl sc_l_asked.nd rfl rfl (sw_true rfl rfl rfl (by decide +kernel)) (pi_list (pv 4)) (blkOk_by (own := [("_law_now", 10)]) (N := ["_law_rng_here", "_law_supply", "_law_many", "_law_steps", "_law_ticks_here", "_law_due", "_law_turn", "_law_first", "_law_last", "_law_told", "_law_now"]) (sc := defScope s_l_asked) (by decide +kernel)) (fun _ _ _ _ _ => pg_name (i := 10) sc_l_asked.nd rfl (by first | exact Or.inl rfl | exact Or.inr rfl)) (fun _ _ _ _ _ => pts_nil) (fun _ _ _ _ _ => (pe_call G_l_at (hr.mono (by decide)) rfl T.m_l_at T.k_l_at T.b_l_at .nil pass0 (pa_cons (pv 2) (pa_cons (pv 3) (pa_cons (pv 10) pa_nil))))))
    (pss_cons (ps_if (PW.pt (pw_or (pt_cmpR (op_neD hr.units) (pe_lc (own := [("_law_now", 10)]) (g := gName 10) (tt := tYes) rfl sc_l_asked.nd (pi_list (pv 4)) (blkOk_by (own := [("_law_now", 10)]) (N := ["_law_rng_here", "_law_supply", "_law_many", "_law_steps", "_law_ticks_here", "_law_due", "_law_turn", "_law_first", "_law_last", "_law_told", "_law_now"]) (sc := defScope s_l_asked) (by decide +kernel)) (fun _ _ _ _ _ => pg_name (i := 10) sc_l_asked.nd rfl (by first | exact Or.inl rfl | exact Or.inr rfl)) (fun _ _ _ _ _ => pts_nil) (fun _ _ _ _ _ => (pe_meth (pv 1) T.clSupply T.me_at G_Supply_at (hr.mono (by decide)) T.b_Supply_at .nil pass0 (pa_cons (pv 10) pa_nil)))) (pv 5) (nomark _)) (pw_or1 (pt_cmpR (op_neD hr.units) (pe_lc (own := [("_law_now", 10)]) (g := gName 10) (tt := tYes) rfl sc_l_asked.nd (pi_list (pv 4)) (blkOk_by (own := [("_law_now", 10)]) (N := ["_law_rng_here", "_law_supply", "_law_many", "_law_steps", "_law_ticks_here", "_law_due", "_law_turn", "_law_first", "_law_last", "_law_told", "_law_now"]) (sc := defScope s_l_asked) (by decide +kernel)) (fun _ _ _ _ _ => pg_name (i := 10) sc_l_asked.nd rfl (by first | exact Or.inl rfl | exact Or.inr rfl)) (fun _ _ _ _ _ => pts_nil) (fun _ _ _ _ _ => (VD.pe_methKw0 (pv 1) T.clSupply T.me_at G_Supply_at (hr.mono (by decide)) kb_Supply_at_tick pass0 (pk_cons (pv 10) pk_nil)))) (pv 5) (nomark _))))) (pss_one (ps_ret pe_bl)) pss_nil)
    (pss_cons (ps_for PassesOwn.never rfl (pi_range1 rfl T.range (pa_cons pe_int pa_nil)) (pg_name (i := 6) sc_l_asked.nd rfl (by first | exact Or.inl rfl | exact Or.inr rfl))
      (pss_cons (ps_set (i := 7) sc_l_asked.nd rfl (by first | exact Or.inl rfl | exact Or.inr rfl) (pe_call G_l_choice (hr.mono (by decide)) rfl T.m_l_choice T.k_l_choice T.b_l_choice .nil pass0 (pa_cons (pv 0) (pa_cons (pv 4) pa_nil))))
    (pss_cons (ps_set (i := 8) sc_l_asked.nd rfl (by first | exact Or.inl rfl | exact Or.inr rfl) (pe_op op_add (pe_op op_add (pv 7) pe_int) (pe_call G_l_draw (hr.mono (by decide)) rfl T.m_l_draw T.k_l_draw T.b_l_draw .nil pass0 (pa_cons (pv 0) (pa_cons pe_int pa_nil)))))
    (pss_cons (ps_set (i := 5) sc_l_asked.nd rfl (by first | exact Or.inl rfl | exact Or.inr rfl) (pe_callB (r := rSum K) (cr_sum rfl) (by rfl) T.sum (by decide +kernel) (pa_cons (pe_lc (own := [("_law_now", 10)]) (g := gName 10) (tt := tYes) rfl sc_l_asked.nd (pi_range2 rfl T.range (pa_cons (pv 7) (pa_cons (pv 8) pa_nil))) (blkOk_by (own := [("_law_now", 10)]) (N := ["_law_rng_here", "_law_supply", "_law_many", "_law_steps", "_law_ticks_here", "_law_due", "_law_turn", "_law_first", "_law_last", "_law_told", "_law_now"]) (sc := defScope s_l_asked) (by decide +kernel)) (fun _ _ _ _ _ => pg_name (i := 10) sc_l_asked.nd rfl (by first | exact Or.inl rfl | exact Or.inr rfl)) (fun _ _ _ _ _ => pts_nil) (fun _ _ _ _ _ => (pe_call G_l_at (hr.mono (by decide)) rfl T.m_l_at T.k_l_at T.b_l_at .nil pass0 (pa_cons (pv 2) (pa_cons (pv 3) (pa_cons (pv 10) pa_nil)))))) pa_nil)))
    (pss_one (ps_if (PW.pt (pw_or (pt_cmpR op_ne (pe_meth (pv 1) T.clSupply T.me_between G_Supply_between (hr.mono (by decide)) T.b_Supply_between .nil pass0 (pa_cons (pv 7) (pa_cons (pv 8) pa_nil))) (pv 5) (nomark _)) (pw_or1 (pt_cmpR op_ne (VD.pe_methKw0 (pv 1) T.clSupply T.me_between G_Supply_between (hr.mono (by decide)) kb_Supply_between_end_start pass0 (pk_cons (pv 8) (pk_cons (pv 7) pk_nil))) (pv 5) (nomark _))))) (pss_one (ps_ret pe_bl)) pss_nil))))))
    (pss_cons (ps_set (i := 9) sc_l_asked.nd rfl (by first | exact Or.inl rfl | exact Or.inr rfl) (pe_meth0 (pv 1) T.clSupply T.me_changes G_Supply_changes (hr.mono (by decide)) T.b_Supply_changes .nil pass0))
    (pss_cons (ps_if (pt_cmpR op_ne (pe_callB (r := VG.rRepr K) (VG.call_repr hA hr.units) (by rfl) T.repr (by decide +kernel) (pa_cons (pv 9) pa_nil)) (pe_callB (r := VG.rRepr K) (VG.call_repr hA hr.units) (by rfl) T.repr (by decide +kernel) (pa_cons (pe_call G_l_real (hr.mono (by decide)) rfl T.m_l_real T.k_l_real T.b_l_real .nil pass0 (pa_cons (pv 2) (pa_cons (pv 3) pa_nil))) pa_nil)) (nomark _)) (pss_one (ps_ret pe_bl)) pss_nil)
    (pss_cons (ps_expr (pe_bm PySem.F.plainAttrs_list PySem.F.slot_list_append PySem.F.type_list_append mt_append (pv 9) (pa_cons (pe_tup (pa_cons pe_int (pa_cons pe_int pa_nil))) pa_nil)))
    (pss_one (ps_ret (pe_cmpR op_eq (pe_callB (r := VG.rRepr K) (VG.call_repr hA hr.units) (by rfl) T.repr (by decide +kernel) (pa_cons (pe_meth0 (pv 1) T.clSupply T.me_changes G_Supply_changes (hr.mono (by decide)) T.b_Supply_changes .nil pass0) pa_nil)) (pe_callB (r := VG.rRepr K) (VG.call_repr hA hr.units) (by rfl) T.repr (by decide +kernel) (pa_cons (pe_call G_l_real (hr.mono (by decide)) rfl T.m_l_real T.k_l_real T.b_l_real .nil pass0 (pa_cons (pv 2) (pa_cons (pv 3) pa_nil))) pa_nil)) (nomark _))))))))))), ?_⟩
    have len := D.ok.len
    refine ⟨_, rfl, _, rfl, r, l, S, rfl, hr0, L, len, fun H1 q d e1 hq0 d0 d1 hq => ?_⟩
    have nq := hr0.ne hq0
    have X1 := X.ext e1
    have L1 := L.ext e1
    have tb := tick_bd D d0 d1
    have tl : (tickS d S).length ≤ 1000 ∧ 0 < (tickS d S).length := by rw [tick_len']; have := D.few; omega
    generalize tickS d S = ts at *
    refine ⟨_, rfl, q, rfl, ⟨_, SqL.of hq⟩, fun B hB => ?_⟩
    refine lc_list (K := K) (a := q) (xs := ts.map V.int) (fun j H' => H' B = some (.lst (((ts.take j).map (atF c S)).map V.int)) ∧ Same H1 H') ⟨upd_same, Same.upd (Same.refl _) hB⟩ (fun i H' _ h => SqL.of (h.2 _ _ hq)) ?_ ?_
    · rintro j v H2 hv ⟨hB2, s2⟩
      obtain ⟨jl, rfl⟩ := nth_map hv
      refine ⟨rfl, _, rfl, _, rfl, _, rfl, l, c, _, S, rfl, (L1.same s2).law, len, fun H3 s3 => ?_⟩
      refine ⟨_, s3 _ _ hB2, small (by rw [List.length_map, List.length_map, List.length_take]; omega), ?_, Same.upd (s2.trans s3) hB⟩
      rw [upd_same, take_map jl, List.map_append]
      rfl
    rintro H2 ⟨hB2, s2⟩
    rw [List.length_map, List.take_length] at hB2
    have hq2 := s2 _ _ hq
    have X2 := X1.same s2
    have e2 := e1.same s2
    have at_no : ∀ {H' : Hp}, SpAt A r H' x c S → ∃ dx fs, H' x = some (.ins A.Supply dx fs) ∧ fs.lookup ("at" : Str) = none ∧ fs.lookup ("between" : Str) = none ∧ fs.lookup ("changes" : Str) = none := fun h => by
      obtain ⟨dx, lc, ls, hx, _⟩ := h
      exact ⟨dx, _, hx, sfs_no _ _ _ _ (by decide +kernel) (by decide +kernel) (by decide +kernel) (by decide +kernel), sfs_no _ _ _ _ (by decide +kernel) (by decide +kernel) (by decide +kernel) (by decide +kernel), sfs_no _ _ _ _ (by decide +kernel) (by decide +kernel) (by decide +kernel) (by decide +kernel)⟩
    have tg : ∀ j, j < ts.length → 0 ≤ ts.getD j 0 ∧ ts.getD j 0 ≤ 1000 := fun j hj => tb _ (by rw [List.getD_eq_getElem?_getD, List.getElem?_eq_getElem hj]; exact List.getElem_mem hj)
    clear s2 hB X1 L1 hq e1 hq0
    refine ⟨_, rfl, q, rfl, ⟨_, SqL.of hq2⟩, fun B2 hB2_ => ?_⟩
    refine lc_list (K := K) (a := q) (xs := ts.map V.int) (fun j H' => H' B2 = some (.lst (((ts.take j).map (atF c S)).map V.int)) ∧ Same H2 H') ⟨upd_same, Same.upd (Same.refl _) hB2_⟩ (fun i H' _ h => SqL.of (h.2 _ _ hq2)) ?_ ?_
    · rintro j v H3 hv ⟨hB3, s3⟩
      obtain ⟨jl, rfl⟩ := nth_map hv
      obtain ⟨dx, fs, hx, no, _, _⟩ := at_no (X2.same s3)
      refine ⟨rfl, _, rfl, x, dx, fs, rfl, hx, no, _, rfl, r, x, c, S, _, rfl, X2.same s3, (tg j jl).1, (tg j jl).2, c0, c1, ?_⟩
      refine ⟨_, hB3, small (by rw [List.length_map, List.length_map, List.length_take]; omega), ?_, Same.upd s3 hB2_⟩
      rw [upd_same, take_map jl, List.map_append]
      rfl
    rintro H3 ⟨hB3, s3⟩
    rw [List.length_map, List.take_length] at hB3
    refine ⟨_, rfl, _, _, .lst (SqL.of hB3) (dp_ints _), .lst (SqL.of (s3 _ _ hB2)) (dp_ints _), shaped_ints _, shaped_ints _, ?_⟩
    rw [eqv_ints, decide_eq_true rfl]
    refine ⟨_, rfl, iteF ?_⟩
    have hq3 := s3 _ _ hq2
    have X3 := X2.same s3
    refine ⟨_, rfl, q, rfl, ⟨_, SqL.of hq3⟩, fun B3 hB3_ => ?_⟩
    refine lc_list (K := K) (a := q) (xs := ts.map V.int) (fun j H' => H' B3 = some (.lst (((ts.take j).map (atF c S)).map V.int)) ∧ Same H3 H') ⟨upd_same, Same.upd (Same.refl _) hB3_⟩ (fun i H' _ h => SqL.of (h.2 _ _ hq3)) ?_ ?_
    · rintro j v H4 hv ⟨hB4, s4⟩
      obtain ⟨jl, rfl⟩ := nth_map hv
      obtain ⟨dx, fs, hx, no, _, _⟩ := at_no (X3.same s4)
      refine ⟨rfl, _, rfl, x, dx, fs, rfl, hx, no, _, rfl, rfl, r, x, c, S, _, rfl, X3.same s4, (tg j jl).1, (tg j jl).2, c0, c1, ?_⟩
      refine ⟨_, hB4, small (by rw [List.length_map, List.length_map, List.length_take]; omega), ?_, Same.upd s4 hB3_⟩
      rw [upd_same, take_map jl, List.map_append]
      rfl
    rintro H4 ⟨hB4, s4⟩
    rw [List.length_map, List.take_length] at hB4
    have s24 := s3.trans s4
    refine ⟨_, rfl, _, _, .lst (SqL.of hB4) (dp_ints _), .lst (SqL.of (s24 _ _ hB2)) (dp_ints _), shaped_ints _, shaped_ints _, ?_⟩
    rw [eqv_ints, decide_eq_true rfl]
    refine ⟨_, rfl, iteF ?_⟩
    have e4 := e2.same s24
    have hq4 := s24 _ _ hq2
    clear s24 s3 s4 hB2 hB3 hB4 hB2_ hB3_ X2 X3 hq2 hq3 e2
    refine ⟨_, rfl, by decide, by decide, ?_⟩
    refine for_range (lo := 0) (n := 4) (fun i σ H' => ∃ v5 v6 v7 v8, σ = [some (.ref r), some (.ref x), some (.int c), some (.ref l), some (.ref q), v5, v6, v7, v8, none, none] ∧ Ext r H H' ∧ H' q = some (.lst (ts.map V.int)))
      ⟨_, _, _, _, rfl, e4, hq4⟩ ?_ ?_
    · rintro i σ H5 hi ⟨v5, v6, v7, v8, rfl, e5, hq5⟩
      refine ⟨_, rfl, _, rfl, r, q, _, rfl, e5.rng, SqL.of hq5, nq, by rw [List.length_map]; exact tl.2, by rw [List.length_map]; omega, fun H6 v e6 hv => ?_⟩
      obtain ⟨t0, ht0, rfl⟩ := List.mem_map.mp hv
      have t0b := tb t0 ht0
      have hq6 := e6.keep _ _ nq hq5
      have e06 := e5.trans e6
      refine ⟨_, rfl, _, _, rfl, rfl, _, rfl, r, _, rfl, e06.rng, by decide, by decide, fun H7 d' e7 dd0 dd1 => ?_⟩
      refine ⟨_, _, rfl, rfl, ?_⟩
      have hq7 := e7.keep _ _ nq hq6
      have e07 := e06.trans e7
      have X7 := X.ext e07
      have L7 := L.ext e07
      obtain ⟨a, rfl⟩ : ∃ a : Nat, t0 = (a : Int) := ⟨t0.toNat, by omega⟩
      obtain ⟨b, rfl⟩ : ∃ b : Nat, d' = (b : Int) := ⟨d'.toNat, by omega⟩
      refine ⟨_, rfl, _, rfl, _, _, rfl, ⟨by omega, by omega, by omega, by omega⟩, fun C hC => ?_⟩
      refine lc_range (lo := (a : Int)) (n := ((a : Int) + 1 + b - a).toNat) (fun j H' => H' C = some (.lst (((List.range j).map fun i : Nat => atF c S ((a : Int) + i)).map V.int)) ∧ Same H7 H') ⟨upd_same, Same.upd (Same.refl _) hC⟩ ?_ ?_
      · rintro j H8 hj ⟨hC8, s8⟩
        refine ⟨rfl, _, rfl, _, rfl, _, rfl, l, c, _, S, rfl, (L7.same s8).law, len, fun H9 s9 => ?_⟩
        refine ⟨_, s9 _ _ hC8, small (by rw [List.length_map, List.length_map, List.length_range]; omega), ?_, Same.upd (s8.trans s9) hC⟩
        rw [upd_same, List.range_succ, List.map_append, List.map_append]
        rfl
      rintro H8 ⟨hC8, s8⟩
      rw [show ((a : Int) + 1 + b - a).toNat = b + 1 by omega] at hC8
      refine ⟨C, _, rfl, SqL.of hC8, ?_⟩
      generalize hsum : ((List.range (b + 1)).map fun i : Nat => atF c S ((a : Int) + i)).sum = sm
      obtain ⟨dx, fs, hx, _, no, _⟩ := at_no (X7.same s8)
      refine ⟨_, rfl, x, dx, fs, rfl, hx, no, _, rfl, _, rfl, r, x, c, S, a, b + 1, (by rw [show ((a + (b + 1) : Nat) : Int) = (a : Int) + 1 + b by omega]; rfl), X7.same s8, by omega, by omega, c0, c1, ?_⟩
      rw [hsum]
      refine ⟨_, rfl, rfl, _, rfl, iteNeV ?_⟩
      refine ⟨_, rfl, x, dx, fs, rfl, hx, no, _, rfl, _, rfl, rfl, r, x, c, S, a, b + 1, (by rw [show ((a + (b + 1) : Nat) : Int) = (a : Int) + 1 + b by omega]; rfl), X7.same s8, by omega, by omega, c0, c1, ?_⟩
      rw [hsum]
      refine ⟨_, rfl, rfl, _, rfl, iteNeV ?_⟩
      exact ⟨_, _, _, _, rfl, e07.same s8, s8 _ _ hq7⟩
    rintro σ H5 ⟨v5, v6, v7, v8, rfl, e5, hq5⟩
    have X5 := X.ext e5
    have L5 := L.ext e5
    obtain ⟨z1, z2, z3⟩ := steps_sz (D.ok.kept c)
    obtain ⟨dx, fs, hx, _, _, no⟩ := at_no X5
    refine ⟨_, rfl, x, dx, fs, rfl, hx, no, r, x, c, S, rfl, X5, fun H6 p s6 hp0 _ ⟨zs, hp, hz, hS⟩ => ?_⟩
    refine ⟨_, rfl, .ref p, dSt (zS zs), rfl, .lst (SqL.of hp) (dp_steps fun z h => (hz z h).1), by rw [hS]; exact z1, by rw [hS]; exact z2, by rw [hS]; exact z3, ?_⟩
    refine ⟨_, rfl, _, rfl, l, c, S, rfl, (L5.same s6).law, len, fun H7 p2 zs2 s7 hp20 hp2 hz2 hS2 => ?_⟩
    refine ⟨.ref p2, dSt (zS zs2), rfl, .lst (SqL.of hp2) (dp_steps fun z h => (hz2 z h).2), by rw [hS2]; exact z1, by rw [hS2]; exact z2, by rw [hS2]; exact z3, ?_⟩
    rw [hS, hS2]
    refine ⟨rfl, _, rfl, iteNeV ?_⟩
    have hp7 := s7 _ _ hp
    refine ⟨_, rfl, .inl ⟨rfl, _, SqL.of hp7⟩, (by show 2 ≤ sizeLine; decide), fun tt htt => ?_⟩
    have npt : p ≠ tt := ne_of_none hp7 htt
    have zl : zs.length ≤ 1000 := by
      have a := congrArg List.length hS
      rw [zS_length] at a
      have b := (D.ok.kept c).len
      omega
    refine ⟨p, _, _, rfl, rfl, by rw [upd_ne npt]; exact hp7, small (by rw [zV_length]; omega), ?_⟩
    have s8 : Same H5 (upd (upd H7 tt (.tup [.int 2000, .int 1])) p (.lst (zV zs ++ [.ref tt]))) := fun b o e => by
      rw [upd_ne (ne_of_none e hp0), upd_ne (ne_of_none (s7 _ _ (s6 _ _ e)) htt)]
      exact s7 _ _ (s6 _ _ e)
    generalize upd (upd H7 tt (.tup [.int 2000, .int 1])) p (.lst (zV zs ++ [.ref tt])) = H8 at *
    have X8 := X5.same s8
    refine ⟨_, rfl, x, dx, fs, rfl, s8 _ _ hx, no, r, x, c, S, rfl, X8, fun H9 p3 s9 hp30 _ ⟨zs3, hp3, hz3, hS3⟩ => ?_⟩
    refine ⟨.ref p3, dSt (zS zs3), rfl, .lst (SqL.of hp3) (dp_steps fun z h => (hz3 z h).1), by rw [hS3]; exact z1, by rw [hS3]; exact z2, by rw [hS3]; exact z3, ?_⟩
    refine ⟨_, rfl, _, rfl, l, c, S, rfl, ((L5.same s8).same s9).law, len, fun H10 p4 zs4 s10 hp40 hp4 hz4 hS4 => ?_⟩
    refine ⟨.ref p4, dSt (zS zs4), rfl, .lst (SqL.of hp4) (dp_steps fun z h => (hz4 z h).2), by rw [hS4]; exact z1, by rw [hS4]; exact z2, by rw [hS4]; exact z3, ?_⟩
    rw [hS3, hS4]
    refine ⟨rfl, ?_⟩
    show Q (.bl (decide (V.str (dSt (keptS c S)).shown = V.str (dSt (keptS c S)).shown))) _
    rw [decide_eq_true rfl]
    exact k _ (e5.same (s8.trans (s9.trans s10)))
end
end VK


namespace VK
open PySem PySem.Spec PyProof.Rows L2 VM
open VD (SqB)
/-- another supply's first value and steps, in a tuple -/
structure Oth where
  t : Addr
  l : Addr
  c : Int
  S : List Stp
structure OthAt (r : Addr) (H : Hp) (o : Oth) : Prop where
  tup : H o.t = some (.tup [.int o.c, .ref o.l])
  st : StL r H o.l o.S
  ok : Stps o.S
  c0 : 0 ≤ o.c
  c1 : o.c ≤ 20
  nt : o.t ≠ r
theorem OthAt.same {r : Addr} {H H' : Hp} {o : Oth} (h : OthAt r H o) (s : Same H H') : OthAt r H' o := ⟨s _ _ h.tup, h.st.same s, h.ok, h.c0, h.c1, h.nt⟩
theorem OthAt.ext {r : Addr} {H H' : Hp} {o : Oth} (h : OthAt r H o) (e : Ext r H H') : OthAt r H' o := ⟨e.keep _ _ h.nt h.tup, h.st.ext e, h.ok, h.c0, h.c1, h.nt⟩
def sp_l_others (_ : PySem.W.Frag) (_ : Ad) : Sp := fun vs H Q _ => ∃ (r l : Addr) (c : Int) (S : List Stp), vs = [.ref r, .int c, .ref l] ∧ Rng H r ∧ StL r H l S ∧ Drw S ∧ 0 ≤ c ∧ c ≤ 20 ∧
  ∀ H' q (os : List Oth), Ext r H H' → H q = none → H' q = some (.lst (os.map fun o => V.ref o.t)) → (∀ o ∈ os, OthAt r H' o) → Q (.ref q) H'
theorem zV_app {a b : List (Addr × Stp)} : zV (a ++ b) = zV a ++ zV b := by unfold zV; rw [List.map_append]
theorem zS_app {a b : List (Addr × Stp)} : zS (a ++ b) = zS a ++ zS b := by unfold zS; rw [List.map_append]
theorem cut_lo {zs : List (Addr × Stp)} {b : Nat} (h : b ≤ zs.length) : cutV (zV zs) none (some (b : Int)) = zV (zs.take b) := by
  unfold cutV
  rw [HT.sIx_nat, HT.sIx_none, zV_length, Nat.min_eq_left h]
  unfold zV
  rw [List.map_take]
  rfl
theorem cut_hi {zs : List (Addr × Stp)} {b : Nat} (h : b ≤ zs.length) : cutV (zV zs) (some (b : Int)) none = zV (zs.drop b) := by
  unfold cutV
  rw [HT.sIx_nat, HT.sIx_none, zV_length, Nat.min_eq_left h]
  unfold zV
  rw [List.map_drop, List.take_of_length_le]
  rw [List.length_drop, List.length_map]
  exact Nat.le_refl _
theorem zV_inj {a b : List (Addr × Stp)} (h : zV a = zV b) : a.map (·.1) = b.map (·.1) := by
  unfold zV at h
  have e := congrArg (fun l : List V => l.map fun v => match v with | .ref a => a | _ => 0) h
  simpa [List.map_map, Function.comp_def] using e
theorem StL.put {r f : Addr} {H : Hp} {l : Addr} {S : List Stp} {o : HO} (h : StL r H l S) (g : StL f H l S) : StL r (upd H f o) l S ∧ StL f (upd H f o) l S := by
  obtain ⟨zs, h1, h2, h3, h4⟩ := h
  obtain ⟨ys, g1, g2, g3, g4⟩ := g
  have e : zV zs = zV ys := by
    have := h1.symm.trans g1
    injection this with this
    injection this
  have e := zV_inj e
  have nf : ∀ z ∈ zs, z.1 ≠ f := fun z hz => by
    have : z.1 ∈ ys.map (·.1) := e ▸ List.mem_map.mpr ⟨z, hz, rfl⟩
    obtain ⟨y, hy, ey⟩ := List.mem_map.mp this
    rw [← ey]
    exact (g2 y hy).2
  exact ⟨⟨zs, by rw [upd_ne g4]; exact h1, fun z hz => ⟨by rw [upd_ne (nf z hz)]; exact (h2 z hz).1, (h2 z hz).2⟩, h3, h4⟩, ⟨zs, by rw [upd_ne g4]; exact h1, fun z hz => ⟨by rw [upd_ne (nf z hz)]; exact (h2 z hz).1, nf z hz⟩, h3, g4⟩⟩
def Oth2 (r f : Addr) (H : Hp) (o : Oth) : Prop := OthAt r H o ∧ OthAt f H o
theorem Oth2.put {r f : Addr} {H : Hp} {o : Oth} {x : HO} (h : Oth2 r f H o) : Oth2 r f (upd H f x) o := by
  obtain ⟨a, b⟩ := h
  obtain ⟨s1, s2⟩ := a.st.put (o := x) b.st
  have t : upd H f x o.t = some (.tup [.int o.c, .ref o.l]) := by rw [upd_ne b.nt]; exact a.tup
  exact ⟨⟨t, s1, a.ok, a.c0, a.c1, a.nt⟩, ⟨t, s2, a.ok, a.c0, a.c1, b.nt⟩⟩
theorem Oth2.same {r f : Addr} {H H' : Hp} {o : Oth} (h : Oth2 r f H o) (s : Same H H') : Oth2 r f H' o := ⟨h.1.same s, h.2.same s⟩
theorem Oth2.ext {r f : Addr} {H H' : Hp} {o : Oth} (h : Oth2 r f H o) (e : Ext r H H') : Oth2 r f H' o := by
  obtain ⟨a, b⟩ := h
  obtain ⟨zs, h1, h2, h3, h4⟩ := a.st
  obtain ⟨ys, g1, g2, g3, g4⟩ := b.st
  have ee : zV zs = zV ys := by
    have := h1.symm.trans g1
    injection this with this
    injection this
  have ee := zV_inj ee
  have nf : ∀ z ∈ zs, z.1 ≠ f := fun z hz => by
    have : z.1 ∈ ys.map (·.1) := ee ▸ List.mem_map.mpr ⟨z, hz, rfl⟩
    obtain ⟨y, hy, ey⟩ := List.mem_map.mp this
    rw [← ey]
    exact (g2 y hy).2
  have a' := a.ext e
  exact ⟨a', a'.tup, ⟨zs, e.keep _ _ h4 h1, fun z hz => ⟨e.keep _ _ (h2 z hz).2 (h2 z hz).1, nf z hz⟩, h3, g4⟩, a.ok, a.c0, a.c1, b.nt⟩
theorem OthAt.two {r f : Addr} {H : Hp} {o : Oth} (h : OthAt r H o) (hf : H f = none) : Oth2 r f H o := by
  obtain ⟨zs, h1, h2, h3, h4⟩ := h.st
  exact ⟨h, h.tup, ⟨zs, h1, fun z hz => ⟨(h2 z hz).1, ne_of_none (h2 z hz).1 hf⟩, h3, ne_of_none h1 hf⟩, h.ok, h.c0, h.c1, ne_of_none h.tup hf⟩
theorem mkOth {r : Addr} {H : Hp} {k t : Addr} {c : Int} {zs : List (Addr × Stp)} (hk : H k = some (.lst (zV zs))) (hz : ∀ z ∈ zs, H z.1 = some (.tup (stV z.2)) ∧ z.1 ≠ r) (nk : k ≠ r) (ok : Stps (zS zs)) (c0 : 0 ≤ c) (c1 : c ≤ 20) (ht : H t = none) (nt : t ≠ r) :
    OthAt r (upd H t (.tup [.int c, .ref k])) ⟨t, k, c, zS zs⟩ :=
  have u := Same.upd (o := .tup [.int c, .ref k]) (Same.refl H) ht
  ⟨upd_same, ⟨zs, u _ _ hk, fun z h => ⟨u _ _ (hz z h).1, (hz z h).2⟩, rfl, nk⟩, ok, c0, c1, nt⟩
theorem Stps.far {S : List Stp} (D : Drw S) : Stps (S ++ [(999, 20)]) := by
  refine ⟨D.ok.srt.push (fun z hz => by have := D.t9 z hz; omega) (by decide), fun z hz => ?_, fun z hz => ?_, by rw [List.length_append, List.length_singleton]; have := D.few; omega⟩
  · rcases List.mem_append.mp hz with h | h
    · exact D.ok.t1 z h
    · cases List.mem_singleton.mp h; decide
  · rcases List.mem_append.mp hz with h | h
    · exact D.ok.v0 z h
    · cases List.mem_singleton.mp h; decide
theorem cut_at {S : List Stp} {i : Nat} {z : Stp} (e : S[i]? = some z) : S = S.take i ++ (z.1, z.2) :: S.drop (i + 1) := by
  have il := (List.getElem?_eq_some_iff.mp e)
  have := List.take_append_drop i S
  rw [List.drop_eq_getElem_cons il.1, il.2] at this
  exact this.symm
theorem Stps.less {S : List Stp} {i : Nat} {z : Stp} (h : Stps S) (e : S[i]? = some z) : Stps (S.take i ++ S.drop (i + 1)) := by
  have c := cut_at e
  have m : ∀ y ∈ S.take i ++ S.drop (i + 1), y ∈ S := fun y hy => (List.mem_append.mp hy).elim List.mem_of_mem_take List.mem_of_mem_drop
  have srt := h.srt
  rw [c] at srt
  exact ⟨srt.drop1, fun y hy => h.t1 y (m y hy), fun y hy => h.v0 y (m y hy), by have := h.len; rw [List.length_append, List.length_take, List.length_drop]; omega⟩
theorem Stps.other {S : List Stp} {i : Nat} {z : Stp} {v : Int} (h : Stps S) (e : S[i]? = some z) (v0 : 0 ≤ v) (v1 : v ≤ 20) : Stps (S.take i ++ (z.1, v) :: S.drop (i + 1)) := by
  have c := cut_at e
  have srt := h.srt
  rw [c] at srt
  have il := (List.getElem?_eq_some_iff.mp e).1
  have m : ∀ y ∈ S.take i ++ (z.1, v) :: S.drop (i + 1), y ∈ S ∨ y = (z.1, v) := fun y hy => by
    rcases List.mem_append.mp hy with hy | hy
    · exact .inl (List.mem_of_mem_take hy)
    · rcases List.mem_cons.mp hy with rfl | hy
      · exact .inr rfl
      · exact .inl (List.mem_of_mem_drop hy)
  refine ⟨srt.swap, fun y hy => ?_, fun y hy => ?_, by have := h.len; rw [List.length_append, List.length_take, List.length_cons, List.length_drop]; omega⟩
  · rcases m y hy with hy | rfl
    · exact h.t1 y hy
    · exact h.t1 z (List.mem_of_getElem? e)
  · rcases m y hy with hy | rfl
    · exact h.v0 y hy
    · exact ⟨v0, v1⟩
theorem Stps.twice {S : List Stp} {i : Nat} {z : Stp} (D : Drw S) (e : S[i]? = some z) : Stps (S.take i ++ [(z.1, z.2), (z.1 + 1, z.2)]) := by
  have c := cut_at e
  have h := D.ok
  have srt := h.srt
  rw [c] at srt
  obtain ⟨_, m2, m3⟩ := srt.mid
  have zm := List.mem_of_getElem? e
  have t9 := D.t9 z zm
  have v := h.v0 z zm
  have f := D.few
  refine ⟨?_, fun y hy => ?_, fun y hy => ?_, by rw [List.length_append, List.length_take]; show _ + 2 ≤ 1000; omega⟩
  · have a := srt.left.push m3 m2 (a := z.2)
    have b := a.push (s := z.1 + 1) (a := z.2) (fun y hy => by
      rcases List.mem_append.mp hy with hy | hy
      · have := m3 y hy; omega
      · cases List.mem_singleton.mp hy; show z.1 < z.1 + 1; omega) (by omega)
    rw [List.append_assoc] at b
    exact b
  · rcases List.mem_append.mp hy with hy | hy
    · exact h.t1 y (List.mem_of_mem_take hy)
    · simp only [List.mem_cons, List.not_mem_nil, or_false] at hy
      rcases hy with rfl | rfl
      · show z.1 ≤ 1000; omega
      · show z.1 + 1 ≤ 1000; omega
  · rcases List.mem_append.mp hy with hy | hy
    · exact h.v0 y (List.mem_of_mem_take hy)
    · simp only [List.mem_cons, List.not_mem_nil, or_false] at hy
      rcases hy with rfl | rfl
      · exact v
      · exact v
theorem zS_take {zs : List (Addr × Stp)} {i : Nat} : zS (zs.take i) = (zS zs).take i := by unfold zS; rw [List.map_take]
theorem zS_drop {zs : List (Addr × Stp)} {i : Nat} : zS (zs.drop i) = (zS zs).drop i := by unfold zS; rw [List.map_drop]
section
variable {P : Program} {w : World} {K : PySem.W.Frag} {mg : Str → Option Value} {base : Heap} {A : Ad}
theorem ok_l_others (T : Txt K mg A) : FnOk P w K mg base CX0 3 A.f_l_others A.d_l_others ["_law_rng_here", "_law_many", "_law_steps"] (sp_l_others K A) := by
  have G_l_draw := ok_l_draw (P := P) (w := w) (base := base) T
  have G_l_real := ok_l_real (P := P) (w := w) (base := base) T
  refine T.F_l_others.ok sc_l_others (fun vs H Q E h => ?_) (fun cdv A0 outer s H vs Q E hr h => ?_)
  · obtain ⟨r, l, c, S, rfl, hr0, L, D, c0, c1, k⟩ := h
    rfl
  · obtain ⟨r, l, c, S, rfl, hr0, L, D, c0, c1, k⟩ := h
    refine ⟨_, (pss_cons (ps_set (i := 3) sc_l_others.nd rfl (by first | exact Or.inl rfl | exact Or.inr rfl) (pe_lst (pa_cons (pe_tup (pa_cons (pv 1) (pa_cons (pe_call G_l_real (hr.mono (by decide)) rfl T.m_l_real T.k_l_real T.b_l_real .nil pass0 (pa_cons (pv 1) (pa_cons (pv 2) pa_nil))) pa_nil))) (pa_cons (pe_tup (pa_cons (pe_op op_mod (pe_callTy call_int1 (by rfl) T.int (by decide +kernel) (pa_cons (pe_op op_add (pv 1) pe_int) pa_nil)) pe_int) (pa_cons (pv 2) pa_nil))) (pa_cons (pe_tup (pa_cons (pv 1) (pa_cons (pe_op op_cat (pv 2) (pe_lst (pa_cons (pe_tup (pa_cons pe_int (pa_cons pe_int pa_nil))) pa_nil))) pa_nil))) pa_nil)))))
    (pss_cons (ps_if (pt_cmpR (op_neD hr.units) (pv 2) (pe_lst pa_nil) (nomark _)) (pss_cons (ps_set (i := 4) sc_l_others.nd rfl (by first | exact Or.inl rfl | exact Or.inr rfl) (pe_call G_l_draw (hr.mono (by decide)) rfl T.m_l_draw T.k_l_draw T.b_l_draw .nil pass0 (pa_cons (pv 0) (pa_cons (pe_callB (r := VG.rLen K) VG.call_len (by rfl) T.len (by decide +kernel) (pa_cons (pv 2) pa_nil)) pa_nil))))
    (pss_cons (ps_asg (pe_ix (r := rIxL K) ix_list (pv 2) (pv 4) (fun _ _ => rfl)) (pg_tup rfl (pgs_cons (pg_name (i := 5) sc_l_others.nd rfl (by first | exact Or.inl rfl | exact Or.inr rfl)) (pgs_cons (pg_name (i := 6) sc_l_others.nd rfl (by first | exact Or.inl rfl | exact Or.inr rfl)) pgs_nil))))
    (pss_cons (ps_expr (pe_bm PySem.F.plainAttrs_list PySem.F.slot_list_append PySem.F.type_list_append mt_append (pv 3) (pa_cons (pe_tup (pa_cons (pv 1) (pa_cons (pe_op op_cat (pe_slice (r := rSlL K) sl_list (pv 2) po_none (po_some (pv 4))) (pe_slice (r := rSlL K) sl_list (pv 2) (po_some (pe_op op_add (pv 4) pe_int)) po_none)) pa_nil))) pa_nil)))
    (pss_cons (ps_expr (pe_bm PySem.F.plainAttrs_list PySem.F.slot_list_append PySem.F.type_list_append mt_append (pv 3) (pa_cons (pe_tup (pa_cons (pv 1) (pa_cons (pe_op op_cat (pe_op op_cat (pe_slice (r := rSlL K) sl_list (pv 2) po_none (po_some (pv 4))) (pe_lst (pa_cons (pe_tup (pa_cons (pv 5) (pa_cons (pe_op op_mod (pe_callTy call_int1 (by rfl) T.int (by decide +kernel) (pa_cons (pe_op op_add (pv 6) pe_int) pa_nil)) pe_int) pa_nil))) pa_nil))) (pe_slice (r := rSlL K) sl_list (pv 2) (po_some (pe_op op_add (pv 4) pe_int)) po_none)) pa_nil))) pa_nil)))
    (pss_one (ps_expr (pe_bm PySem.F.plainAttrs_list PySem.F.slot_list_append PySem.F.type_list_append mt_append (pv 3) (pa_cons (pe_tup (pa_cons (pv 1) (pa_cons (pe_op op_cat (pe_slice (r := rSlL K) sl_list (pv 2) po_none (po_some (pv 4))) (pe_lst (pa_cons (pe_tup (pa_cons (pv 5) (pa_cons (pv 6) pa_nil))) (pa_cons (pe_tup (pa_cons (pe_op op_add (pv 5) pe_int) (pa_cons (pv 6) pa_nil))) pa_nil)))) pa_nil))) pa_nil)))))))) pss_nil)
    (pss_one (ps_ret (pv 3))))), ?_⟩
    have len := D.ok.len
    obtain ⟨zs, hl, hz, rfl, nl⟩ := id L
    have zl : zs.length ≤ 8 := by have := D.few; rw [zS_length] at this; exact this
    refine ⟨_, rfl, _, rfl, _, rfl, l, c, zS zs, rfl, L.law, len, fun H1 k1 zs1 s1 hk0 hk hz1 hS1 => ?_⟩
    refine ⟨(by show 2 ≤ sizeLine; decide), fun t1 ht1 => ?_⟩
    have O1 := mkOth (r := r) (c := c) hk (fun z h => ⟨(hz1 z h).2, hr0.ne (hz1 z h).1⟩) (hr0.ne hk0) (by rw [hS1]; exact D.ok.kept c) c0 c1 ht1 ((hr0.same s1).ne ht1)
    have s2 := s1.trans (Same.upd (o := .tup [.int c, .ref k1]) (Same.refl H1) ht1)
    generalize (⟨t1, k1, c, zS zs1⟩ : Oth) = o1, (show t1 = (⟨t1, k1, c, zS zs1⟩ : Oth).t from rfl) = et1 at O1
    generalize upd H1 t1 (.tup [.int c, .ref k1]) = H2 at *
    clear hz1 hS1 hk hk0 s1 ht1
    have hl2 := s2 _ _ hl
    have hz2 : ∀ z ∈ zs, H2 z.1 = some (.tup (stV z.2)) ∧ z.1 ≠ r := fun z h => ⟨s2 _ _ (hz z h).1, (hz z h).2⟩
    refine ⟨_, rfl, _, _, rfl, rfl, .inl ⟨_, rfl, _, _, rfl, rfl, (by show (0 : Int) < 21; decide), _, rfl, (by show 2 ≤ sizeLine; decide), fun t2 ht2 => ?_⟩⟩
    have m0 := Int.emod_nonneg (c + 1) (show (21 : Int) ≠ 0 by decide)
    have m1 := Int.emod_lt_of_pos (c + 1) (show (0 : Int) < 21 by decide)
    have O2 := mkOth (r := r) (c := (c + 1) % 21) hl2 hz2 nl D.ok m0 (by omega) ht2 ((hr0.same s2).ne ht2)
    have s3 := s2.trans (Same.upd (o := .tup [.int ((c + 1) % 21), .ref l]) (Same.refl H2) ht2)
    have O1 := O1.same (Same.upd (o := .tup [.int ((c + 1) % 21), .ref l]) (Same.refl H2) ht2)
    generalize (⟨t2, l, (c + 1) % 21, zS zs⟩ : Oth) = o2, (show t2 = (⟨t2, l, (c + 1) % 21, zS zs⟩ : Oth).t from rfl) = et2 at O2
    generalize upd H2 t2 (.tup [.int ((c + 1) % 21), .ref l]) = H3 at *
    clear hl2 hz2 s2 ht2 m0 m1
    refine ⟨_, rfl, _, rfl, (by show 2 ≤ sizeLine; decide), fun y hy => ⟨(by show 1 ≤ sizeLine; decide), fun p1 hp1 => ?_⟩⟩
    have v1 := Same.upd (o := .tup [.int 999, .int 20]) (Same.refl H3) hy
    have v2 := v1.trans (Same.upd (o := .lst [.ref y]) (Same.refl _) hp1)
    refine ⟨l, p1, _, _, rfl, rfl, v2 _ _ (s3 _ _ hl), upd_same, (by rw [zV_length, sizeLine_eq]; show _ + 1 ≤ _; omega), fun p2 hp2 => ?_⟩
    have v3 := v2.trans (Same.upd (o := .lst (zV zs ++ [.ref y])) (Same.refl _) hp2)
    refine ⟨(by show 2 ≤ sizeLine; decide), fun t3 ht3 => ?_⟩
    have r3 := hr0.same s3
    have hy3 : upd (upd (upd H3 y (.tup [.int 999, .int 20])) p1 (.lst [.ref y])) p2 (.lst (zV zs ++ [.ref y])) y = some (.tup (stV (999, 20))) := (v3.trans (Same.refl _)) |> fun _ => by
      have a : upd H3 y (.tup [.int 999, .int 20]) y = some (.tup (stV (999, 20))) := upd_same
      have b := Same.upd (o := .lst [.ref y]) (Same.refl _) hp1 _ _ a
      exact Same.upd (o := .lst (zV zs ++ [.ref y])) (Same.refl _) hp2 _ _ b
    have O3 := mkOth (r := r) (c := c) (zs := zs ++ [(y, (999, 20))]) (t := t3) (k := p2) (H := upd (upd (upd H3 y (.tup [.int 999, .int 20])) p1 (.lst [.ref y])) p2 (.lst (zV zs ++ [.ref y])))
      (by rw [upd_same, zV_app]; rfl) (fun z h => by
        rcases List.mem_append.mp h with h | h
        · exact ⟨v3 _ _ (s3 _ _ (hz z h).1), (hz z h).2⟩
        · cases List.mem_singleton.mp h
          exact ⟨hy3, r3.ne hy⟩) ((r3.same v2).ne hp2) (by rw [zS_app]; exact Stps.far D) c0 c1 ht3 ((r3.same v3).ne ht3)
    have v4 := v3.trans (Same.upd (o := .tup [.int c, .ref p2]) (Same.refl _) ht3)
    have s4 := s3.trans v4
    have O1 := O1.same v4
    have O2 := O2.same v4
    generalize (⟨t3, p2, c, zS (zs ++ [(y, (999, 20))])⟩ : Oth) = o3, (show t3 = (⟨t3, p2, c, zS (zs ++ [(y, (999, 20))])⟩ : Oth).t from rfl) = et3 at O3
    generalize upd (upd (upd (upd H3 y (.tup [.int 999, .int 20])) p1 (.lst [.ref y])) p2 (.lst (zV zs ++ [.ref y]))) t3 (.tup [.int c, .ref p2]) = H4 at *
    clear s3 v1 v2 v3 v4 hy3 hy hp1 hp2 ht3 r3
    rw [et1, et2, et3]
    refine ⟨(by show 3 ≤ sizeLine; decide), fun fo hfo => ?_⟩
    have nfr := (hr0.same s4).ne hfo
    have fo0 : H fo = none := s4.free hfo
    have O1 := (O1.two hfo).same (Same.upd (o := .lst [.ref o1.t, .ref o2.t, .ref o3.t]) (Same.refl _) hfo)
    have O2 := (O2.two hfo).same (Same.upd (o := .lst [.ref o1.t, .ref o2.t, .ref o3.t]) (Same.refl _) hfo)
    have O3 := (O3.two hfo).same (Same.upd (o := .lst [.ref o1.t, .ref o2.t, .ref o3.t]) (Same.refl _) hfo)
    have s5 := Same.upd (o := .lst [.ref o1.t, .ref o2.t, .ref o3.t]) s4 fo0
    have f5 : upd H4 fo (.lst [.ref o1.t, .ref o2.t, .ref o3.t]) fo = some (.lst [.ref o1.t, .ref o2.t, .ref o3.t]) := upd_same
    generalize upd H4 fo (.lst [.ref o1.t, .ref o2.t, .ref o3.t]) = H5 at *
    have hl5 := s5 _ _ hl
    have hz5 : ∀ z ∈ zs, H5 z.1 = some (.tup (stV z.2)) ∧ z.1 ≠ r ∧ z.1 ≠ fo := fun z h => ⟨s5 _ _ (hz z h).1, (hz z h).2, ne_of_none (hz z h).1 fo0⟩
    have nlf : l ≠ fo := ne_of_none hl fo0
    clear et1 et2 et3 s4 hfo
    refine ⟨_, rfl, (by show 0 ≤ sizeLine; decide), fun e0 he0 => ?_⟩
    have w1 := Same.upd (o := .lst []) (Same.refl H5) he0
    refine ⟨dSt (zS zs), dSt [], .lst (SqL.of (w1 _ _ hl5)) (dp_steps fun z h => w1 _ _ (hz5 z h).1), .lst (SqL.of upd_same) .nil, shaped_steps _, shaped_steps _, ?_⟩
    rw [eqv_steps]
    refine ⟨_, rfl, ?_⟩
    by_cases z0 : zS zs = []
    · rw [decide_eq_true z0]
      refine iteF ⟨_, rfl, ?_⟩
      refine k _ fo [o1, o2, o3] (Ext.of hr0 (s5.trans w1)) fo0 (w1 _ _ f5) fun o ho => ?_
      simp only [List.mem_cons, List.not_mem_nil, or_false] at ho
      rcases ho with rfl | rfl | rfl
      · exact (O1.same w1).1
      · exact (O2.same w1).1
      · exact (O3.same w1).1
    · rw [decide_eq_false z0]
      refine iteT ?_
      have zs0 : 0 < zs.length := by
        cases zs with
        | nil => exact absurd rfl z0
        | cons a b => exact Nat.succ_pos _
      have E0_ := Ext.of hr0 (s5.trans w1)
      refine ⟨_, rfl, _, rfl, l, _, rfl, .inl (SqL.of (w1 _ _ hl5)), r, _, rfl, E0_.rng, by rw [zV_length]; omega, by rw [zV_length]; omega, fun H6 i_ e6 i0 i1 => ?_⟩
      rw [zV_length] at i1
      obtain ⟨i, rfl⟩ : ∃ i : Nat, i_ = (i : Int) := ⟨i_.toNat, by omega⟩
      have il : i < zs.length := by omega
      have E6 := E0_.trans e6
      have O1 := (O1.same w1).ext e6
      have O2 := (O2.same w1).ext e6
      have O3 := (O3.same w1).ext e6
      have f6 := e6.keep _ _ nfr (w1 _ _ f5)
      have hl6 := e6.keep _ _ nl (w1 _ _ hl5)
      have hz6 : ∀ z ∈ zs, H6 z.1 = some (.tup (stV z.2)) ∧ z.1 ≠ r ∧ z.1 ≠ fo := fun z h => ⟨e6.keep _ _ (hz5 z h).2.1 (w1 _ _ (hz5 z h).1), (hz5 z h).2⟩
      clear e6 E0_ w1 he0 hl5 hz5 f5 s5 i0 i1
      obtain ⟨z, ez⟩ : ∃ z, zs[i]? = some z := ⟨zs[i], List.getElem?_eq_getElem il⟩
      have mz := List.mem_of_getElem? ez
      have eS : (zS zs)[i]? = some z.2 := by unfold zS; rw [List.getElem?_map, ez]; rfl
      have vz := D.ok.v0 z.2 (List.mem_of_getElem? eS)
      refine ⟨_, rfl, _, rfl, l, _, _, _, rfl, rfl, SqL.of hl6, (show atI (zV zs) ((i : Nat) : Int) = some (.ref z.1) from atI_nat (by unfold zV; rw [List.getElem?_map, ez]; rfl)), z.1, _, rfl, SqT.of (hz6 z mz).1, rfl, _, _, rfl, _, _, rfl, rfl, ?_⟩
      have tk : (zs.take i).length ≤ 8 := by rw [List.length_take]; omega
      have dk : (zs.drop (i + 1)).length ≤ 8 := by rw [List.length_drop]; omega
      -- without that change
      refine ⟨_, rfl, .inl ⟨rfl, _, SqL.of f6⟩, ?_⟩
      refine ⟨_, rfl, _, rfl, _, rfl, _, rfl, l, _, rfl, SqL.of hl6, fun p1 hp1 => ?_⟩
      rw [cut_lo (by omega)]
      have v1 := Same.upd (o := .lst (zV (zs.take i))) (Same.refl H6) hp1
      have x1 : upd H6 p1 (.lst (zV (zs.take i))) p1 = some (.lst (zV (zs.take i))) := upd_same
      generalize upd H6 p1 (.lst (zV (zs.take i))) = I1 at *
      refine ⟨_, rfl, _, rfl, _, _, rfl, rfl, _, rfl, l, _, rfl, SqL.of (v1 _ _ hl6), fun p2 hp2 => ?_⟩
      rw [show (some ((i : Int) + 1) : Option Int) = some ((i + 1 : Nat) : Int) by rw [show ((i + 1 : Nat) : Int) = (i : Int) + 1 by omega], cut_hi (by omega)]
      have v2 := Same.upd (o := .lst (zV (zs.drop (i + 1)))) (Same.refl I1) hp2
      have x2 : upd I1 p2 (.lst (zV (zs.drop (i + 1)))) p2 = some (.lst (zV (zs.drop (i + 1)))) := upd_same
      have x1 := v2 _ _ x1
      generalize upd I1 p2 (.lst (zV (zs.drop (i + 1)))) = I2 at *
      refine ⟨p1, p2, _, _, rfl, rfl, x1, x2, (by rw [zV_length, zV_length, sizeLine_eq]; omega), fun p3 hp3 => ?_⟩
      rw [← zV_app]
      have v3 := Same.upd (o := .lst (zV (zs.take i ++ zs.drop (i + 1)))) (Same.refl I2) hp3
      have x3 : upd I2 p3 (.lst (zV (zs.take i ++ zs.drop (i + 1)))) p3 = some (.lst (zV (zs.take i ++ zs.drop (i + 1)))) := upd_same
      have v13 := (v1.trans v2).trans v3
      have np3 := (E6.same (v1.trans v2)).rng.ne hp3
      have np3f : p3 ≠ fo := fun e => by have := (v1.trans v2) _ _ f6; rw [← e, hp3] at this; cases this
      generalize upd I2 p3 (.lst (zV (zs.take i ++ zs.drop (i + 1)))) = I3 at *
      have E3 := E6.same v13
      refine ⟨(by show 2 ≤ sizeLine; decide), fun t4 ht4 => ?_⟩
      have m4 : ∀ y ∈ zs.take i ++ zs.drop (i + 1), I3 y.1 = some (.tup (stV y.2)) ∧ y.1 ≠ r ∧ y.1 ≠ fo := fun y hy => by
        have := hz6 y ((List.mem_append.mp hy).elim List.mem_of_mem_take List.mem_of_mem_drop)
        exact ⟨v13 _ _ this.1, this.2⟩
      have ok4 : Stps (zS (zs.take i ++ zs.drop (i + 1))) := by rw [zS_app, zS_take, zS_drop]; exact D.ok.less eS
      have P4 : Oth2 r fo _ _ := ⟨mkOth x3 (fun y hy => ⟨(m4 y hy).1, (m4 y hy).2.1⟩) np3 ok4 c0 c1 ht4 (E3.rng.ne ht4), mkOth x3 (fun y hy => ⟨(m4 y hy).1, (m4 y hy).2.2⟩) np3f ok4 c0 c1 ht4 (fun e => by have := v13 _ _ f6; rw [← e, ht4] at this; cases this)⟩
      have v4 := v13.trans (Same.upd (o := .tup [.int c, .ref p3]) (Same.refl I3) ht4)
      have O1 := (O1.same v4).put (x := .lst ([.ref o1.t, .ref o2.t, .ref o3.t] ++ [.ref t4]))
      have O2 := (O2.same v4).put (x := .lst ([.ref o1.t, .ref o2.t, .ref o3.t] ++ [.ref t4]))
      have O3 := (O3.same v4).put (x := .lst ([.ref o1.t, .ref o2.t, .ref o3.t] ++ [.ref t4]))
      have O4 := P4.put (x := .lst ([.ref o1.t, .ref o2.t, .ref o3.t] ++ [.ref t4]))
      refine ⟨fo, _, _, rfl, rfl, v4 _ _ f6, small (by show 3 ≤ _; decide), ?_⟩
      have E7 := (E6.same v4).put (o := .lst ([.ref o1.t, .ref o2.t, .ref o3.t] ++ [.ref t4])) fo0 nfr
      have f7 : upd (upd I3 t4 (.tup [.int c, .ref p3])) fo (.lst ([.ref o1.t, .ref o2.t, .ref o3.t] ++ [.ref t4])) fo = some (.lst [.ref o1.t, .ref o2.t, .ref o3.t, .ref t4]) := upd_same
      have hl7 : upd (upd I3 t4 (.tup [.int c, .ref p3])) fo (.lst ([.ref o1.t, .ref o2.t, .ref o3.t] ++ [.ref t4])) l = some (.lst (zV zs)) := by rw [upd_ne nlf]; exact v4 _ _ hl6
      have hz7 : ∀ z ∈ zs, upd (upd I3 t4 (.tup [.int c, .ref p3])) fo (.lst ([.ref o1.t, .ref o2.t, .ref o3.t] ++ [.ref t4])) z.1 = some (.tup (stV z.2)) ∧ z.1 ≠ r ∧ z.1 ≠ fo := fun z h => ⟨by rw [upd_ne (hz6 z h).2.2]; exact v4 _ _ (hz6 z h).1, (hz6 z h).2⟩
      generalize (⟨t4, p3, c, zS (zs.take i ++ zs.drop (i + 1))⟩ : Oth) = o4, (show t4 = (⟨t4, p3, c, zS (zs.take i ++ zs.drop (i + 1))⟩ : Oth).t from rfl) = et4 at O4
      generalize upd (upd I3 t4 (.tup [.int c, .ref p3])) fo (.lst ([.ref o1.t, .ref o2.t, .ref o3.t] ++ [.ref t4])) = H7 at *
      clear P4
      subst et4
      clear v1 v2 v3 v13 v4 x1 x2 x3 m4 ok4 hp1 hp2 hp3 ht4 np3 np3f E3 E6 f6 hl6 hz6
      -- with another value there
      have o0 := Int.emod_nonneg (z.2.2 + 1) (show (21 : Int) ≠ 0 by decide)
      have o21 := Int.emod_lt_of_pos (z.2.2 + 1) (show (0 : Int) < 21 by decide)
      refine ⟨_, rfl, .inl ⟨rfl, _, SqL.of f7⟩, ?_⟩
      refine ⟨_, rfl, _, rfl, _, rfl, _, rfl, l, _, rfl, SqL.of hl7, fun p1 hp1 => ?_⟩
      rw [cut_lo (by omega)]
      have v1 := Same.upd (o := .lst (zV (zs.take i))) (Same.refl H7) hp1
      have x1 : upd H7 p1 (.lst (zV (zs.take i))) p1 = some (.lst (zV (zs.take i))) := upd_same
      generalize upd H7 p1 (.lst (zV (zs.take i))) = I1 at *
      refine ⟨_, rfl, _, rfl, _, _, rfl, rfl, .inl ⟨_, rfl, _, _, rfl, rfl, (by show (0 : Int) < 21; decide), (by show 2 ≤ sizeLine; decide), fun y hy => ⟨(by show 1 ≤ sizeLine; decide), fun p2 hp2 => ?_⟩⟩⟩
      have v2 := v1.trans (Same.upd (o := .tup [.int z.2.1, .int ((z.2.2 + 1) % 21)]) (Same.refl I1) hy)
      have hy2 : upd I1 y (.tup [.int z.2.1, .int ((z.2.2 + 1) % 21)]) y = some (.tup (stV (z.2.1, (z.2.2 + 1) % 21))) := upd_same
      have ny : y ≠ r ∧ y ≠ fo := ⟨(E7.same v1).rng.ne hy, fun e => by have := v1 _ _ f7; rw [← e, hy] at this; cases this⟩
      have x1 := Same.upd (o := .tup [.int z.2.1, .int ((z.2.2 + 1) % 21)]) (Same.refl I1) hy _ _ x1
      generalize upd I1 y (.tup [.int z.2.1, .int ((z.2.2 + 1) % 21)]) = I2 at *
      have v3 := v2.trans (Same.upd (o := .lst [.ref y]) (Same.refl I2) hp2)
      have x2 : upd I2 p2 (.lst [.ref y]) p2 = some (.lst [.ref y]) := upd_same
      have x1 := Same.upd (o := .lst [.ref y]) (Same.refl I2) hp2 _ _ x1
      have hy3 := Same.upd (o := .lst [.ref y]) (Same.refl I2) hp2 _ _ hy2
      generalize upd I2 p2 (.lst [.ref y]) = I3 at *
      refine ⟨p1, p2, _, _, rfl, rfl, x1, x2, (by rw [zV_length, sizeLine_eq]; show _ + 1 ≤ _; omega), fun p3 hp3 => ?_⟩
      have v4 := v3.trans (Same.upd (o := .lst (zV (zs.take i) ++ [.ref y])) (Same.refl I3) hp3)
      have x3 : upd I3 p3 (.lst (zV (zs.take i) ++ [.ref y])) p3 = some (.lst (zV (zs.take i) ++ [.ref y])) := upd_same
      have hy4 := Same.upd (o := .lst (zV (zs.take i) ++ [.ref y])) (Same.refl I3) hp3 _ _ hy3
      generalize upd I3 p3 (.lst (zV (zs.take i) ++ [.ref y])) = I4 at *
      refine ⟨_, rfl, _, rfl, _, _, rfl, rfl, _, rfl, l, _, rfl, SqL.of (v4 _ _ hl7), fun p4 hp4 => ?_⟩
      rw [show (some ((i : Int) + 1) : Option Int) = some ((i + 1 : Nat) : Int) by rw [show ((i + 1 : Nat) : Int) = (i : Int) + 1 by omega], cut_hi (by omega)]
      have v5 := v4.trans (Same.upd (o := .lst (zV (zs.drop (i + 1)))) (Same.refl I4) hp4)
      have x4 : upd I4 p4 (.lst (zV (zs.drop (i + 1)))) p4 = some (.lst (zV (zs.drop (i + 1)))) := upd_same
      have x3 := Same.upd (o := .lst (zV (zs.drop (i + 1)))) (Same.refl I4) hp4 _ _ x3
      have hy5 := Same.upd (o := .lst (zV (zs.drop (i + 1)))) (Same.refl I4) hp4 _ _ hy4
      generalize upd I4 p4 (.lst (zV (zs.drop (i + 1)))) = I5 at *
      refine ⟨p3, p4, _, _, rfl, rfl, x3, x4, (by rw [List.length_append, zV_length, zV_length, sizeLine_eq]; show _ + 1 + _ ≤ _; omega), fun p5 hp5 => ?_⟩
      have eL : zV (zs.take i) ++ [.ref y] ++ zV (zs.drop (i + 1)) = zV (zs.take i ++ (y, (z.2.1, (z.2.2 + 1) % 21)) :: zs.drop (i + 1)) := by
        rw [zV_app, List.append_assoc]; rfl
      rw [eL]
      have np5 := (E7.same v5).rng.ne hp5
      have np5f : p5 ≠ fo := fun e => by have := v5 _ _ f7; rw [← e, hp5] at this; cases this
      have v6 := v5.trans (Same.upd (o := .lst (zV (zs.take i ++ (y, (z.2.1, (z.2.2 + 1) % 21)) :: zs.drop (i + 1)))) (Same.refl I5) hp5)
      have x5 : upd I5 p5 (.lst (zV (zs.take i ++ (y, (z.2.1, (z.2.2 + 1) % 21)) :: zs.drop (i + 1)))) p5 = some (.lst (zV (zs.take i ++ (y, (z.2.1, (z.2.2 + 1) % 21)) :: zs.drop (i + 1)))) := upd_same
      have hy6 := Same.upd (o := .lst (zV (zs.take i ++ (y, (z.2.1, (z.2.2 + 1) % 21)) :: zs.drop (i + 1)))) (Same.refl I5) hp5 _ _ hy5
      generalize upd I5 p5 (.lst (zV (zs.take i ++ (y, (z.2.1, (z.2.2 + 1) % 21)) :: zs.drop (i + 1)))) = I6 at *
      refine ⟨(by show 2 ≤ sizeLine; decide), fun t5 ht5 => ?_⟩
      have m5 : ∀ u ∈ zs.take i ++ (y, (z.2.1, (z.2.2 + 1) % 21)) :: zs.drop (i + 1), I6 u.1 = some (.tup (stV u.2)) ∧ u.1 ≠ r ∧ u.1 ≠ fo := fun u hu => by
        rcases List.mem_append.mp hu with hu | hu
        · have := hz7 u (List.mem_of_mem_take hu)
          exact ⟨v6 _ _ this.1, this.2⟩
        · rcases List.mem_cons.mp hu with rfl | hu
          · exact ⟨hy6, ny⟩
          · have := hz7 u (List.mem_of_mem_drop hu)
            exact ⟨v6 _ _ this.1, this.2⟩
      have ok5 : Stps (zS (zs.take i ++ (y, (z.2.1, (z.2.2 + 1) % 21)) :: zs.drop (i + 1))) := by
        rw [zS_app]
        show Stps (zS (zs.take i) ++ (z.2.1, (z.2.2 + 1) % 21) :: zS (zs.drop (i + 1)))
        rw [zS_take, zS_drop]
        exact D.ok.other eS o0 (by omega)
      have P5 : Oth2 r fo _ _ := ⟨mkOth x5 (fun y hy => ⟨(m5 y hy).1, (m5 y hy).2.1⟩) np5 ok5 c0 c1 ht5 ((E7.same v6).rng.ne ht5), mkOth x5 (fun y hy => ⟨(m5 y hy).1, (m5 y hy).2.2⟩) np5f ok5 c0 c1 ht5 (fun e => by have := v6 _ _ f7; rw [← e, ht5] at this; cases this)⟩
      have v7 := v6.trans (Same.upd (o := .tup [.int c, .ref p5]) (Same.refl I6) ht5)
      have O1 := (O1.same v7).put (x := .lst ([.ref o1.t, .ref o2.t, .ref o3.t, .ref o4.t] ++ [.ref t5]))
      have O2 := (O2.same v7).put (x := .lst ([.ref o1.t, .ref o2.t, .ref o3.t, .ref o4.t] ++ [.ref t5]))
      have O3 := (O3.same v7).put (x := .lst ([.ref o1.t, .ref o2.t, .ref o3.t, .ref o4.t] ++ [.ref t5]))
      have O4 := (O4.same v7).put (x := .lst ([.ref o1.t, .ref o2.t, .ref o3.t, .ref o4.t] ++ [.ref t5]))
      have O5 := P5.put (x := .lst ([.ref o1.t, .ref o2.t, .ref o3.t, .ref o4.t] ++ [.ref t5]))
      refine ⟨fo, _, _, rfl, rfl, v7 _ _ f7, small (by show 4 ≤ _; decide), ?_⟩
      have E8 := (E7.same v7).put (o := .lst ([.ref o1.t, .ref o2.t, .ref o3.t, .ref o4.t] ++ [.ref t5])) fo0 nfr
      have f8 : upd (upd I6 t5 (.tup [.int c, .ref p5])) fo (.lst ([.ref o1.t, .ref o2.t, .ref o3.t, .ref o4.t] ++ [.ref t5])) fo = some (.lst [.ref o1.t, .ref o2.t, .ref o3.t, .ref o4.t, .ref t5]) := upd_same
      have hl8 : upd (upd I6 t5 (.tup [.int c, .ref p5])) fo (.lst ([.ref o1.t, .ref o2.t, .ref o3.t, .ref o4.t] ++ [.ref t5])) l = some (.lst (zV zs)) := by rw [upd_ne nlf]; exact v7 _ _ hl7
      have hz8 : ∀ z ∈ zs, upd (upd I6 t5 (.tup [.int c, .ref p5])) fo (.lst ([.ref o1.t, .ref o2.t, .ref o3.t, .ref o4.t] ++ [.ref t5])) z.1 = some (.tup (stV z.2)) ∧ z.1 ≠ r ∧ z.1 ≠ fo := fun z h => ⟨by rw [upd_ne (hz7 z h).2.2]; exact v7 _ _ (hz7 z h).1, (hz7 z h).2⟩
      generalize (⟨t5, p5, c, zS (zs.take i ++ (y, (z.2.1, (z.2.2 + 1) % 21)) :: zs.drop (i + 1))⟩ : Oth) = o5, (show t5 = (⟨t5, p5, c, zS (zs.take i ++ (y, (z.2.1, (z.2.2 + 1) % 21)) :: zs.drop (i + 1))⟩ : Oth).t from rfl) = et5 at O5
      generalize upd (upd I6 t5 (.tup [.int c, .ref p5])) fo (.lst ([.ref o1.t, .ref o2.t, .ref o3.t, .ref o4.t] ++ [.ref t5])) = H8 at *
      clear P5 v1 v2 v3 v4 v5 v6 v7 x1 x2 x3 x4 x5 hy hy2 hy3 hy4 hy5 hy6 ny m5 ok5 hp1 hp2 hp3 hp4 hp5 np5 np5f E7 f7 hl7 hz7 o0 o21 eL
      subst et5
      clear ht5
      -- twice the same
      refine ⟨_, rfl, .inl ⟨rfl, _, SqL.of f8⟩, ?_⟩
      refine ⟨_, rfl, _, rfl, _, rfl, _, rfl, l, _, rfl, SqL.of hl8, fun p1 hp1 => ?_⟩
      rw [cut_lo (by omega)]
      have v1 := Same.upd (o := .lst (zV (zs.take i))) (Same.refl H8) hp1
      have x1 : upd H8 p1 (.lst (zV (zs.take i))) p1 = some (.lst (zV (zs.take i))) := upd_same
      generalize upd H8 p1 (.lst (zV (zs.take i))) = I1 at *
      refine ⟨_, rfl, _, rfl, (by show 2 ≤ sizeLine; decide), fun y hy => ?_⟩
      have v2 := v1.trans (Same.upd (o := .tup [.int z.2.1, .int z.2.2]) (Same.refl I1) hy)
      have hy2 : upd I1 y (.tup [.int z.2.1, .int z.2.2]) y = some (.tup (stV (z.2.1, z.2.2))) := upd_same
      have ny : y ≠ r ∧ y ≠ fo := ⟨(E8.same v1).rng.ne hy, fun e => by have := v1 _ _ f8; rw [← e, hy] at this; cases this⟩
      have x1 := Same.upd (o := .tup [.int z.2.1, .int z.2.2]) (Same.refl I1) hy _ _ x1
      generalize upd I1 y (.tup [.int z.2.1, .int z.2.2]) = I2 at *
      refine ⟨_, rfl, _, _, rfl, rfl, _, rfl, (by show 2 ≤ sizeLine; decide), fun u hu => ?_⟩
      have v3 := v2.trans (Same.upd (o := .tup [.int (z.2.1 + 1), .int z.2.2]) (Same.refl I2) hu)
      have hu3 : upd I2 u (.tup [.int (z.2.1 + 1), .int z.2.2]) u = some (.tup (stV (z.2.1 + 1, z.2.2))) := upd_same
      have nu : u ≠ r ∧ u ≠ fo := ⟨(E8.same v2).rng.ne hu, fun e => by have := v2 _ _ f8; rw [← e, hu] at this; cases this⟩
      have x1 := Same.upd (o := .tup [.int (z.2.1 + 1), .int z.2.2]) (Same.refl I2) hu _ _ x1
      have hy3 := Same.upd (o := .tup [.int (z.2.1 + 1), .int z.2.2]) (Same.refl I2) hu _ _ hy2
      generalize upd I2 u (.tup [.int (z.2.1 + 1), .int z.2.2]) = I3 at *
      refine ⟨(by show 2 ≤ sizeLine; decide), fun p2 hp2 => ?_⟩
      have v4 := v3.trans (Same.upd (o := .lst [.ref y, .ref u]) (Same.refl I3) hp2)
      have x2 : upd I3 p2 (.lst [.ref y, .ref u]) p2 = some (.lst [.ref y, .ref u]) := upd_same
      have x1 := Same.upd (o := .lst [.ref y, .ref u]) (Same.refl I3) hp2 _ _ x1
      have hy4 := Same.upd (o := .lst [.ref y, .ref u]) (Same.refl I3) hp2 _ _ hy3
      have hu4 := Same.upd (o := .lst [.ref y, .ref u]) (Same.refl I3) hp2 _ _ hu3
      generalize upd I3 p2 (.lst [.ref y, .ref u]) = I4 at *
      refine ⟨p1, p2, _, _, rfl, rfl, x1, x2, (by rw [zV_length, sizeLine_eq]; show _ + 2 ≤ _; omega), fun p5 hp5 => ?_⟩
      have eL : zV (zs.take i) ++ [.ref y, .ref u] = zV (zs.take i ++ [(y, (z.2.1, z.2.2)), (u, (z.2.1 + 1, z.2.2))]) := by
        rw [zV_app]; rfl
      rw [eL]
      have np5 := (E8.same v4).rng.ne hp5
      have np5f : p5 ≠ fo := fun e => by have := v4 _ _ f8; rw [← e, hp5] at this; cases this
      have v6 := v4.trans (Same.upd (o := .lst (zV (zs.take i ++ [(y, (z.2.1, z.2.2)), (u, (z.2.1 + 1, z.2.2))]))) (Same.refl I4) hp5)
      have x5 : upd I4 p5 (.lst (zV (zs.take i ++ [(y, (z.2.1, z.2.2)), (u, (z.2.1 + 1, z.2.2))]))) p5 = some (.lst (zV (zs.take i ++ [(y, (z.2.1, z.2.2)), (u, (z.2.1 + 1, z.2.2))]))) := upd_same
      have hy6 := Same.upd (o := .lst (zV (zs.take i ++ [(y, (z.2.1, z.2.2)), (u, (z.2.1 + 1, z.2.2))]))) (Same.refl I4) hp5 _ _ hy4
      have hu6 := Same.upd (o := .lst (zV (zs.take i ++ [(y, (z.2.1, z.2.2)), (u, (z.2.1 + 1, z.2.2))]))) (Same.refl I4) hp5 _ _ hu4
      generalize upd I4 p5 (.lst (zV (zs.take i ++ [(y, (z.2.1, z.2.2)), (u, (z.2.1 + 1, z.2.2))]))) = I6 at *
      refine ⟨(by show 2 ≤ sizeLine; decide), fun t5 ht5 => ?_⟩
      have m5 : ∀ b ∈ zs.take i ++ [(y, (z.2.1, z.2.2)), (u, (z.2.1 + 1, z.2.2))], I6 b.1 = some (.tup (stV b.2)) ∧ b.1 ≠ r ∧ b.1 ≠ fo := fun b hb => by
        rcases List.mem_append.mp hb with hb | hb
        · have := hz8 b (List.mem_of_mem_take hb)
          exact ⟨v6 _ _ this.1, this.2⟩
        · simp only [List.mem_cons, List.not_mem_nil, or_false] at hb
          rcases hb with rfl | rfl
          · exact ⟨hy6, ny⟩
          · exact ⟨hu6, nu⟩
      have ok5 : Stps (zS (zs.take i ++ [(y, (z.2.1, z.2.2)), (u, (z.2.1 + 1, z.2.2))])) := by
        rw [zS_app]
        show Stps (zS (zs.take i) ++ [(z.2.1, z.2.2), (z.2.1 + 1, z.2.2)])
        rw [zS_take]
        exact Stps.twice D eS
      have P5 : Oth2 r fo _ _ := ⟨mkOth x5 (fun y hy => ⟨(m5 y hy).1, (m5 y hy).2.1⟩) np5 ok5 c0 c1 ht5 ((E8.same v6).rng.ne ht5), mkOth x5 (fun y hy => ⟨(m5 y hy).1, (m5 y hy).2.2⟩) np5f ok5 c0 c1 ht5 (fun e => by have := v6 _ _ f8; rw [← e, ht5] at this; cases this)⟩
      have v7 := v6.trans (Same.upd (o := .tup [.int c, .ref p5]) (Same.refl I6) ht5)
      have O1 := (O1.same v7).put (x := .lst ([.ref o1.t, .ref o2.t, .ref o3.t, .ref o4.t, .ref o5.t] ++ [.ref t5]))
      have O2 := (O2.same v7).put (x := .lst ([.ref o1.t, .ref o2.t, .ref o3.t, .ref o4.t, .ref o5.t] ++ [.ref t5]))
      have O3 := (O3.same v7).put (x := .lst ([.ref o1.t, .ref o2.t, .ref o3.t, .ref o4.t, .ref o5.t] ++ [.ref t5]))
      have O4 := (O4.same v7).put (x := .lst ([.ref o1.t, .ref o2.t, .ref o3.t, .ref o4.t, .ref o5.t] ++ [.ref t5]))
      have O5 := (O5.same v7).put (x := .lst ([.ref o1.t, .ref o2.t, .ref o3.t, .ref o4.t, .ref o5.t] ++ [.ref t5]))
      have O6 := P5.put (x := .lst ([.ref o1.t, .ref o2.t, .ref o3.t, .ref o4.t, .ref o5.t] ++ [.ref t5]))
      refine ⟨fo, _, _, rfl, rfl, v7 _ _ f8, small (by show 5 ≤ _; decide), ?_⟩
      have E9 := (E8.same v7).put (o := .lst ([.ref o1.t, .ref o2.t, .ref o3.t, .ref o4.t, .ref o5.t] ++ [.ref t5])) fo0 nfr
      refine ⟨_, rfl, k _ fo [o1, o2, o3, o4, o5, ⟨t5, p5, c, zS (zs.take i ++ [(y, (z.2.1, z.2.2)), (u, (z.2.1 + 1, z.2.2))])⟩] E9 fo0 upd_same fun o ho => ?_⟩
      simp only [List.mem_cons, List.not_mem_nil, or_false] at ho
      rcases ho with rfl | rfl | rfl | rfl | rfl | rfl
      · exact O1.1
      · exact O2.1
      · exact O3.1
      · exact O4.1
      · exact O5.1
      · exact O6.1
end
end VK


namespace VK
open PySem PySem.Spec PyProof.Rows L2 VM
open VD (SqB)
/-- steps in a list, as the law reads them -/
def StR (H : Hp) (l : Addr) (S : List Stp) : Prop := ∃ zs, H l = some (.lst (zV zs)) ∧ StH H zs ∧ zS zs = S
theorem StR.same {H H' : Hp} {l : Addr} {S : List Stp} (h : StR H l S) (s : Same H H') : StR H' l S := by
  obtain ⟨zs, h1, h2, h3⟩ := h
  exact ⟨zs, s _ _ h1, h2.same s, h3⟩
theorem StR.law {K : PySem.W.Frag} {H : Hp} {l : Addr} {S : List Stp} (h : StR H l S) : ∃ zs, SqL K H l (zV zs) ∧ StH H zs ∧ zS zs = S := by
  obtain ⟨zs, h1, h2, h3⟩ := h
  exact ⟨zs, SqL.of h1, h2, h3⟩
theorem StL.r {r : Addr} {H : Hp} {l : Addr} {S : List Stp} (h : StL r H l S) : StR H l S := by
  obtain ⟨zs, h1, h2, h3, h4⟩ := h
  exact ⟨zs, h1, fun z hz => (h2 z hz).1, h3⟩
def alk (c d : Int) (S R : List Stp) : Bool := ((0 : Int) :: (S ++ R).map (·.1)).all fun t => decide (atF c S t = atF d R t)
theorem alk_iff {c d : Int} {S R : List Stp} (hS : Stps S) (hR : Stps R) : alk c d S R = (decide (c = d) && decide (keptS c S = keptS d R)) := by
  rw [Bool.eq_iff_iff, Bool.and_eq_true, decide_eq_true_eq, decide_eq_true_eq, kept_iff_at hS.srt hR.srt]
  unfold alk
  rw [List.all_cons, Bool.and_eq_true, decide_eq_true_eq, List.all_eq_true]
  refine and_congr_right fun _ => ⟨fun h z hz => ?_, fun h t ht => ?_⟩
  · exact of_decide_eq_true (h z.1 (List.mem_map.mpr ⟨z, hz, rfl⟩))
  · obtain ⟨z, hz, rfl⟩ := List.mem_map.mp ht
    exact decide_eq_true (h z hz)
def sp_l_alike (_ : PySem.W.Frag) (_ : Ad) : Sp := fun vs H Q _ => ∃ (t1 t2 l1 l2 : Addr) (c d : Int) (S R : List Stp), vs = [.ref t1, .ref t2] ∧ H t1 = some (.tup [.int c, .ref l1]) ∧ H t2 = some (.tup [.int d, .ref l2]) ∧ StR H l1 S ∧ StR H l2 R ∧ S.length ≤ 1000 ∧ R.length ≤ 1000 ∧
  ∀ H', Same H H' → Q (.bl (alk c d S R)) H'
section
variable {P : Program} {w : World} {K : PySem.W.Frag} {mg : Str → Option Value} {base : Heap} {A : Ad}
theorem ok_l_alike (T : Txt K mg A) : FnOk P w K mg base CX0 2 A.f_l_alike A.d_l_alike ["_law_one", "_law_other"] (sp_l_alike K A) := by
  have G_l_at := ok_l_at (P := P) (w := w) (base := base) T
  refine T.F_l_alike.ok sc_l_alike (fun vs H Q E h => ?_) (fun cdv A0 outer s H vs Q E hr h => ?_)
  · obtain ⟨t1, t2, l1, l2, c, d, S, R, rfl, h1, h2, L1, L2, n1, n2, k⟩ := h
    rfl
  · obtain ⟨t1, t2, l1, l2, c, d, S, R, rfl, h1, h2, L1, L2, n1, n2, k⟩ := h
    refine ⟨_, (pss_cons (ps_set (i := 2) sc_l_alike.nd rfl (by first | exact Or.inl rfl | exact Or.inr rfl) (pe_op op_cat (pe_lst (pa_cons pe_int pa_nil)) (pe_lc (own := [("_law_now", 3), ("_law_many", 4)]) (g := gTup K 2 (gCons (gName 3) (gCons (gName 4) gNil))) (tt := tYes) rfl sc_l_alike.nd (pi_list (pe_op op_cat (pe_ix (r := rIxT K) ix_tup (pv 0) pe_int (fun _ _ => rfl)) (pe_ix (r := rIxT K) ix_tup (pv 1) pe_int (fun _ _ => rfl)))) (blkOk_by (own := [("_law_now", 3), ("_law_many", 4)]) (N := ["_law_one", "_law_other", "_law_ticks_here", "_law_now", "_law_many"]) (sc := defScope s_l_alike) (by decide +kernel)) (fun _ _ _ _ _ => pg_tup rfl (pgs_cons (pg_name (i := 3) sc_l_alike.nd rfl (by first | exact Or.inl rfl | exact Or.inr rfl)) (pgs_cons (pg_name (i := 4) sc_l_alike.nd rfl (by first | exact Or.inl rfl | exact Or.inr rfl)) pgs_nil))) (fun _ _ _ _ _ => pts_nil) (fun _ _ _ _ _ => (pv 3)))))
    (pss_one (ps_ret (pe_callB (r := rAll K) (cr_all rfl) (by rfl) T.all (by decide +kernel) (pa_cons (pe_lc (own := [("_law_now", 3)]) (g := gName 3) (tt := tYes) rfl sc_l_alike.nd (pi_list (pv 2)) (blkOk_by (own := [("_law_now", 3)]) (N := ["_law_one", "_law_other", "_law_ticks_here", "_law_now", "_law_many"]) (sc := defScope s_l_alike) (by decide +kernel)) (fun _ _ _ _ _ => pg_name (i := 3) sc_l_alike.nd rfl (by first | exact Or.inl rfl | exact Or.inr rfl)) (fun _ _ _ _ _ => pts_nil) (fun _ _ _ _ _ => (pe_cmpR op_eq (pe_call G_l_at (hr.mono (by decide)) rfl T.m_l_at T.k_l_at T.b_l_at .nil pass0 (pa_cons (pe_ix (r := rIxT K) ix_tup (pv 0) pe_int (fun _ _ => rfl)) (pa_cons (pe_ix (r := rIxT K) ix_tup (pv 0) pe_int (fun _ _ => rfl)) (pa_cons (pv 3) pa_nil)))) (pe_call G_l_at (hr.mono (by decide)) rfl T.m_l_at T.k_l_at T.b_l_at .nil pass0 (pa_cons (pe_ix (r := rIxT K) ix_tup (pv 1) pe_int (fun _ _ => rfl)) (pa_cons (pe_ix (r := rIxT K) ix_tup (pv 1) pe_int (fun _ _ => rfl)) (pa_cons (pv 3) pa_nil)))) (nomark _)))) pa_nil))))), ?_⟩
    obtain ⟨zs, hl1, hz1, rfl⟩ := id L1
    obtain ⟨ys, hl2, hz2, rfl⟩ := id L2
    rw [zS_length] at n1 n2
    refine ⟨(by show 1 ≤ sizeLine; decide), fun q hq => ?_⟩
    have s1 := Same.upd (o := .lst [.int 0]) (Same.refl H) hq
    have q1 : upd H q (.lst [.int 0]) q = some (.lst [.int 0]) := upd_same
    generalize upd H q (.lst [.int 0]) = H1 at *
    refine ⟨_, rfl, t1, _, _, _, rfl, rfl, SqT.of (s1 _ _ h1), rfl, _, rfl, t2, _, _, _, rfl, rfl, SqT.of (s1 _ _ h2), rfl, l1, l2, _, _, rfl, rfl, s1 _ _ hl1, s1 _ _ hl2, (by rw [zV_length, zV_length, sizeLine_eq]; omega), fun p hp => ?_⟩
    rw [← zV_app]
    have s2 := s1.trans (Same.upd (o := .lst (zV (zs ++ ys))) (Same.refl H1) hp)
    have q2 := Same.upd (o := .lst (zV (zs ++ ys))) (Same.refl H1) hp _ _ q1
    have p2 : upd H1 p (.lst (zV (zs ++ ys))) p = some (.lst (zV (zs ++ ys))) := upd_same
    generalize upd H1 p (.lst (zV (zs ++ ys))) = H2 at *
    have hz : ∀ z ∈ zs ++ ys, H2 z.1 = some (.tup (stV z.2)) := fun z h => (List.mem_append.mp h).elim (fun h => s2 _ _ (hz1 z h)) (fun h => s2 _ _ (hz2 z h))
    refine ⟨p, rfl, ⟨_, SqL.of p2⟩, fun D hD => ?_⟩
    refine lc_list (K := K) (a := p) (xs := zV (zs ++ ys)) (fun j H' => H' D = some (.lst ((((zS (zs ++ ys)).take j).map (·.1)).map V.int)) ∧ Same H2 H') ⟨upd_same, Same.upd (Same.refl _) hD⟩ (fun i H' _ h => SqL.of (h.2 _ _ p2)) ?_ ?_
    · rintro j v H3 hv ⟨hD3, s3⟩
      obtain ⟨z, ez, rfl, mz⟩ := z_nth hv
      have hz3 := s3 _ _ (hz z mz)
      have e : ((zS (zs ++ ys)).take (j + 1)).map (·.1) = ((zS (zs ++ ys)).take j).map (·.1) ++ [z.2.1] := by
        have et := take_z ez
        rw [zS_take, zS_take] at et
        rw [et, List.map_append]; rfl
      refine ⟨z.1, _, rfl, SqT.of hz3, rfl, _, _, rfl, _, _, rfl, rfl, rfl, _, rfl, ?_⟩
      refine ⟨_, hD3, small (by rw [List.length_map, List.length_map, List.length_take, zS_length, List.length_append]; omega), ?_, Same.upd s3 hD⟩
      rw [upd_same, e, List.map_append]
      rfl
    rintro H3 ⟨hD3, s3⟩
    rw [zV_length, show (zs ++ ys).length = (zS (zs ++ ys)).length from zS_length.symm, List.take_length, zS_app] at hD3
    refine ⟨q, D, _, _, rfl, rfl, s3 _ _ q2, hD3, (by rw [List.length_map, List.length_map, List.length_append, zS_length, zS_length, sizeLine_eq]; show 1 + _ ≤ _; omega), fun u hu => ?_⟩
    have s4 := s3.trans (Same.upd (o := .lst (([.int 0] : List V) ++ ((zS zs ++ zS ys).map (·.1)).map V.int)) (Same.refl _) hu)
    have u4 : upd H3 u (.lst (([.int 0] : List V) ++ ((zS zs ++ zS ys).map (·.1)).map V.int)) u = some (.lst (((0 : Int) :: (zS zs ++ zS ys).map (·.1)).map V.int)) := upd_same
    generalize upd H3 u (.lst (([.int 0] : List V) ++ ((zS zs ++ zS ys).map (·.1)).map V.int)) = H4 at *
    have s04 := s2.trans s4
    have tl : ((0 : Int) :: (zS zs ++ zS ys).map (·.1)).length ≤ 3000 := by rw [List.length_cons, List.length_map, List.length_append, zS_length, zS_length]; omega
    have alke : alk c d (zS zs) (zS ys) = ((0 : Int) :: (zS zs ++ zS ys).map (·.1)).all fun t => decide (atF c (zS zs) t = atF d (zS ys) t) := rfl
    rw [alke] at k
    generalize ((0 : Int) :: (zS zs ++ zS ys).map (·.1)) = ts at *
    clear s4 s2 s3 s1 hD3 hD hu hp hq q1 q2 p2 hz alke
    refine ⟨_, rfl, u, rfl, ⟨_, SqL.of u4⟩, fun B hB => ?_⟩
    refine lc_list (K := K) (a := u) (xs := ts.map V.int) (fun j H' => H' B = some (.lst (((ts.take j).map fun t => decide (atF c (zS zs) t = atF d (zS ys) t)).map V.bl)) ∧ Same H4 H') ⟨upd_same, Same.upd (Same.refl _) hB⟩ (fun i H' _ h => SqL.of (h.2 _ _ u4)) ?_ ?_
    · rintro j v H5 hv ⟨hB5, s5⟩
      obtain ⟨jl, rfl⟩ := nth_map hv
      have a1 := (s04.trans s5) _ _ h1
      refine ⟨rfl, _, rfl, t1, _, _, _, rfl, rfl, SqT.of a1, rfl, _, rfl, t1, _, _, _, rfl, rfl, SqT.of a1, rfl, _, rfl, l1, c, _, zS zs, rfl, (L1.same (s04.trans s5)).law, by rw [zS_length]; exact n1, fun H6 s6 => ?_⟩
      have a2 := ((s04.trans s5).trans s6) _ _ h2
      refine ⟨_, rfl, t2, _, _, _, rfl, rfl, SqT.of a2, rfl, _, rfl, t2, _, _, _, rfl, rfl, SqT.of a2, rfl, _, rfl, l2, d, _, zS ys, rfl, (L2.same ((s04.trans s5).trans s6)).law, by rw [zS_length]; exact n2, fun H7 s7 => ?_⟩
      have e : (ts.take (j + 1)).map (fun t => decide (atF c (zS zs) t = atF d (zS ys) t)) = (ts.take j).map (fun t => decide (atF c (zS zs) t = atF d (zS ys) t)) ++ [decide (atF c (zS zs) (ts.getD j 0) = atF d (zS ys) (ts.getD j 0))] := by
        rw [List.take_add_one, List.getElem?_eq_getElem jl, List.map_append, List.getD_eq_getElem?_getD, List.getElem?_eq_getElem jl]
        rfl
      refine ⟨rfl, _, s7 _ _ (s6 _ _ hB5), small (by rw [List.length_map, List.length_map, List.length_take]; omega), ?_, Same.upd (s5.trans (s6.trans s7)) hB⟩
      rw [upd_same, e, List.map_append, deq_int]
      rfl
    rintro H5 ⟨hB5, s5⟩
    rw [List.length_map, List.take_length] at hB5
    refine ⟨B, _, rfl, SqL.of hB5, ?_⟩
    rw [List.all_map]
    exact k _ (s04.trans s5)
end
end VK


namespace VK
open PySem PySem.Spec PyProof.Rows L2 VM
open VD (SqB)
theorem db_s3 {K : PySem.W.Frag} {mg : Str → Option Value} {A : Ad} (T : Txt K mg A) : ∃ ds, Vals ([] : List V) ds ∧ Binds K A.d_Supply_init ["self", "capacity", "changes"] ds :=
  T.F_Supply_init.binds1 (ps := ["self", "capacity", "changes"]) 3 1 (by simp) rfl (fun T kV doc pm an cdv ct us its h1 h2 => match us, its, h1, h2 with | [_, _, _], [_], _, _ => ⟨_, rfl, rfl⟩)
theorem db_s2 {K : PySem.W.Frag} {mg : Str → Option Value} {A : Ad} (T : Txt K mg A) : ∃ ds, Vals [V.ref A.e_Supply_init0] ds ∧ Binds K A.d_Supply_init ["self", "capacity", "changes"] ds :=
  T.F_Supply_init.binds1 (ps := ["self", "capacity", "changes"]) 2 0 (by simp) rfl (fun T kV doc pm an cdv ct us its h1 h2 => match us, its, h1, h2 with | [_, _], [_], _, _ => ⟨_, rfl, rfl⟩)
theorem kb_sc {K : PySem.W.Frag} {mg : Str → Option Value} {A : Ad} (T : Txt K mg A) : ∃ its : List Value, KBn K A.d_Supply_init ["self", "capacity", "changes"] 1 ["changes", "capacity"] (fun us ws => us ++ (ws.drop 1 ++ ws.take 1)) (fun vs zs => vs ++ (zs.drop 1 ++ zs.take 1)) :=
  VD.kbinds1 T.F_Supply_init 1 ["changes", "capacity"] (fun us _ ws => us ++ (ws.drop 1 ++ ws.take 1)) (by simp) (fun a _ c => a.append ((c.drop 1).append (c.take 1))) (fun T kV doc pm an cdv ct us its ws h1 h2 h3 => match us, its, ws, h1, h2, h3 with | [_], [_], [_, _], _, _, _ => ⟨_, rfl, rfl⟩)
theorem make_same {H H1 : Hp} {x dx : Addr} {o1 o2 : HO} (hx : H x = none) (hdx : H dx = none) (keep : ∀ b o, b ≠ x → upd (upd H dx o1) x o2 b = some o → H1 b = some o) : Same H H1 :=
  fun b o e => keep b o (ne_of_none e hx) (by rw [upd_ne (ne_of_none e hx), upd_ne (ne_of_none e hdx)]; exact e)
theorem sp_own_eq {K : PySem.W.Frag} {mg : Str → Option Value} {A : Ad} (T : Txt K mg A) {H : Hp} {r r2 x y : Addr} {c d : Int} {S R : List Stp} {Q : VK} {E : XK} (C1 : SpAt A r H x c S) (C2 : SpAt A r2 H y d R)
    (q : Q (.bl (decide (c = d) && decide (keptS c S = keptS d R))) H) : VN.rOwn K A.Supply (sp_Supply_eq K A) E (.ref x) (.ref y) H Q := by
  obtain ⟨dx, lc, ls, hx, _⟩ := id C1
  obtain ⟨dy, lc2, ls2, hy, _⟩ := id C2
  exact ⟨x, dx, _, .ref A.Supply, rfl, hx, T.ic_Supply.typ T.clSupply hy, VN.notFirst_own, r, x, c, S, .ref y, rfl, C1, .inl ⟨r2, y, d, R, rfl, C2, _, rfl, q⟩⟩
theorem sp_own_ne {K : PySem.W.Frag} {mg : Str → Option Value} {A : Ad} (T : Txt K mg A) {H : Hp} {r r2 x y : Addr} {c d : Int} {S R : List Stp} {Q : VK} {E : XK} (C1 : SpAt A r H x c S) (C2 : SpAt A r2 H y d R)
    (q : Q (.bl (!(decide (c = d) && decide (keptS c S = keptS d R)))) H) : VN.rOwnN K A.Supply (sp_Supply_eq K A) E (.ref x) (.ref y) H Q := by
  obtain ⟨dx, lc, ls, hx, _⟩ := id C1
  obtain ⟨dy, lc2, ls2, hy, _⟩ := id C2
  exact ⟨x, dx, _, .ref A.Supply, rfl, hx, T.ic_Supply.typ T.clSupply hy, VN.notFirst_own, r, x, c, S, .ref y, rfl, C1, .inl ⟨r2, y, d, R, rfl, C2, _, rfl, q⟩⟩
theorem ty_same {K : PySem.W.Frag} {H H' : Hp} {v : V} {n : String} (h : TyX K H v (.type n)) (s : Same H H') (hn : n ∈ VN.kinds) : TyX K H' v (.type n) := by
  generalize e : Value.type n = t at h
  cases h with
  | base h =>
    cases h with
    | non => exact .base .non
    | bl b => exact .base (.bl b)
    | int i => exact .base (.int i)
    | str x => exact .base (.str x)
    | lst h => exact .base (.lst (s _ _ h))
    | frz h => exact .base (.frz (s _ _ h))
    | tup h => exact .base (.tup (s _ _ h))
    | dK h => exact .base (.dK (s _ _ h))
    | dT h => exact .base (.dT (s _ _ h))
    | _ => first | (cases e; exact absurd hn (by decide)) | cases e
  | kList h c => exact .kList h c
  | kTuple h c => exact .kTuple h c
  | kDict h c => exact .kDict h c
  | fTuple h => exact .fTuple (s _ _ h)
  | fDict h => exact .fDict (s _ _ h)
  | _ => first | (cases e; exact absurd hn (by decide)) | cases e
def bl3 (b : Bool) : PyData := .list [.bool b, .bool b, .bool (!b)]
theorem bl3_sz (b : Bool) : (bl3 b).showable = true ∧ (bl3 b).depth ≤ 60 ∧ (bl3 b).shown.length ≤ sizeLine := by
  cases b
  · exact ⟨rfl, by decide +kernel, by decide +kernel⟩
  · exact ⟨rfl, by decide +kernel, by decide +kernel⟩
def sp_l_equal_right (_ : PySem.W.Frag) (A : Ad) : Sp := fun vs H Q _ => ∃ (r x l : Addr) (c : Int) (S : List Stp), vs = [.ref r, .ref x, .int c, .ref l] ∧ Rng H r ∧ SpAt A r H x c S ∧ StL r H l S ∧ Drw S ∧ 0 ≤ c ∧ c ≤ 20 ∧
  ∀ H', Ext r H H' → Q (.bl true) H'
section
variable {P : Program} {w : World} {K : PySem.W.Frag} {mg : Str → Option Value} {base : Heap} {A : Ad}
theorem ok_l_equal_right (T : Txt K mg A) : VG.FnG P w K mg base CX0 8 A.f_l_equal_right A.d_l_equal_right ["_law_rng_here", "_law_supply", "_law_many", "_law_steps"] (sp_l_equal_right K A) := by
  have G_Supply_eq := ok_Supply_eq (P := P) (w := w) (base := base) T
  have G_Supply_init := ok_Supply_init (P := P) (w := w) (base := base) T
  have G_l_alike := ok_l_alike (P := P) (w := w) (base := base) T
  have G_l_others := ok_l_others (P := P) (w := w) (base := base) T
  have G_Supply_eq := ok_Supply_eq (P := P) (w := w) (base := base) T
  have G_Supply_init := ok_Supply_init (P := P) (w := w) (base := base) T
  obtain ⟨ds3, hv3, hb3⟩ := db_s3 T
  refine VG.okG0 T.F_l_equal_right sc_l_equal_right (fun vs H Q E h => ?_) (fun cdv A0 outer s H vs Q E hA hr h => ?_)
  · obtain ⟨r, x, l, c, S, rfl, hr0, X, L, D, c0, c1, k⟩ := h
    rfl
  · obtain ⟨r, x, l, c, S, rfl, hr0, X, L, D, c0, c1, k⟩ := h
    refine ⟨_, (pss_cons (ps_for PassesOwn.never rfl (pi_list (pe_call G_l_others (hr.mono (by decide)) rfl T.m_l_others T.k_l_others T.b_l_others .nil pass0 (pa_cons (pv 0) (pa_cons (pv 2) (pa_cons (pv 3) pa_nil))))) (pg_name (i := 4) sc_l_equal_right.nd rfl (by first | exact Or.inl rfl | exact Or.inr rfl))
      (pss_cons (ps_par (i := 5) (j := 6) (by rfl) sc_l_equal_right.nd rfl rfl (by decide) rfl rfl (pa_cons (pe_make T.M_Supply G_Supply_init (hr.mono (by decide)) rfl T.m_Supply hb3 hv3 pass0 (pa_cons (pe_ix (r := rIxT K) ix_tup (pv 4) pe_int (fun _ _ => rfl)) (pa_cons (pe_ix (r := rIxT K) ix_tup (pv 4) pe_int (fun _ _ => rfl)) pa_nil))) (pa_cons (pe_call G_l_alike (hr.mono (by decide)) rfl T.m_l_alike T.k_l_alike T.b_l_alike .nil pass0 (pa_cons (pe_tup (pa_cons (pv 2) (pa_cons (pv 3) pa_nil))) (pa_cons (pv 4) pa_nil))) pa_nil)) (by rfl))
    (pss_one (ps_if (pt_cmpR op_ne (pe_callB (r := VG.rRepr K) (VG.call_repr hA hr.units) (by rfl) T.repr (by decide +kernel) (pa_cons (pe_lst (pa_cons (pe_cmpR (VN.op_eqOwn (C := A.Supply) G_Supply_eq (hr.mono (by decide)) T.me___eq__ T.ic_Supply T.b_Supply_eq pass0) (pv 1) (pv 5) (nomark _)) (pa_cons (pe_cmpR (VN.op_eqOwn (C := A.Supply) G_Supply_eq (hr.mono (by decide)) T.me___eq__ T.ic_Supply T.b_Supply_eq pass0) (pv 5) (pv 1) (nomark _)) (pa_cons (pe_cmpR (VN.op_neOwn (C := A.Supply) G_Supply_eq (hr.mono (by decide)) T.me___eq__ T.ic_Supply T.b_Supply_eq pass0) (pv 1) (pv 5) (nomark _)) pa_nil)))) pa_nil)) (pe_callB (r := VG.rRepr K) (VG.call_repr hA hr.units) (by rfl) T.repr (by decide +kernel) (pa_cons (pe_lst (pa_cons (pv 6) (pa_cons (pv 6) (pa_cons (pe_not (pv 6)) pa_nil)))) pa_nil)) (nomark _)) (pss_one (ps_ret pe_bl)) pss_nil))))
    (pss_one (ps_ret (pe_not (pe_callB (r := rAny K) (cr_any rfl) (by rfl) T.any (by decide +kernel) (pa_cons (pe_lc (own := [("_law_thing", 7)]) (g := gName 7) (tt := tYes) rfl sc_l_equal_right.nd (pi_tup (pe_tup (pa_cons pe_non (pa_cons (pv 2) (pa_cons (pv 3) (pa_cons (pe_tup (pa_cons (pv 2) (pa_cons (pv 3) pa_nil))) (pa_cons (pe_lst pa_nil) (pa_cons pe_str pa_nil)))))))) (blkOk_by (own := [("_law_thing", 7)]) (N := ["_law_rng_here", "_law_supply", "_law_many", "_law_steps", "_law_other", "_law_beside", "_law_due", "_law_thing"]) (sc := defScope s_l_equal_right) (by decide +kernel)) (fun _ _ _ _ _ => pg_name (i := 7) sc_l_equal_right.nd rfl (by first | exact Or.inl rfl | exact Or.inr rfl)) (fun _ _ _ _ _ => pts_nil) (fun _ _ _ _ _ => (pe_cmpR (show OpR _ (compareOp .Eq) (VN.rOwn K A.Supply (sp_Supply_eq K A) E0) from VN.op_eqOwn (C := A.Supply) G_Supply_eq (hr.mono (by decide)) T.me___eq__ T.ic_Supply T.b_Supply_eq pass0) (pv 1) (pv 7) (nomark _)))) pa_nil)))))), ?_⟩
    have len := D.ok.len
    refine ⟨_, rfl, _, rfl, _, rfl, r, l, c, S, rfl, hr0, L, D, c0, c1, fun H1 q os e1 hq0 hq hO => ⟨q, rfl, ⟨_, SqL.of hq⟩, ?_⟩⟩
    have X1 := X.ext e1
    have L1 := L.ext e1
    refine for_list (K := K) (a := q) (xs := os.map fun o => V.ref o.t) (fun i σ H' => ∃ v4 v5 v6, σ = [some (.ref r), some (.ref x), some (.int c), some (.ref l), v4, v5, v6, none] ∧ Same H1 H')
      ⟨_, _, _, rfl, Same.refl _⟩ (fun i σ H' _ ⟨_, _, _, _, s⟩ => SqL.of (s _ _ hq)) ?_ ?_
    · rintro i v σ H2 hv ⟨v4, v5, v6, rfl, s2⟩
      obtain ⟨o, mo, rfl⟩ : ∃ o ∈ os, v = .ref o.t := by
        rw [List.getElem?_map] at hv
        cases e : os[i]? with
        | none => rw [e] at hv; cases hv
        | some o => rw [e] at hv; cases hv; exact ⟨o, List.mem_of_getElem? e, rfl⟩
      have O2 := (hO o mo).same s2
      refine ⟨_, rfl, o.t, _, _, _, rfl, rfl, SqT.of O2.tup, rfl, _, rfl, o.t, _, _, _, rfl, rfl, SqT.of O2.tup, rfl, fun y dy hy hdy hne => ?_⟩
      have rn : H2 r ≠ none := by obtain ⟨_, _, e, _⟩ := e1.rng.same s2; rw [e]; exact fun z => nomatch z
      refine ⟨y, dy, o.l, o.c, o.S, rfl, upd_same, O2.st.b.same (Same.upd (Same.upd (Same.refl H2) hdy) hy), O2.ok, O2.c0, O2.c1, fun H3 keep sp => ⟨rfl, ?_⟩⟩
      have s3 := make_same hy hdy keep
      have Y := sp r (fun z => rn ((Same.upd (o := .ins A.Supply dy []) (Same.upd (o := .own y) (Same.refl H2) hdy) hy).free z)) (fun e => rn (e ▸ hy))
      have s13 := s2.trans s3
      refine ⟨_, rfl, _, rfl, (by show 2 ≤ sizeLine; decide), fun tt htt => ?_⟩
      have s4 := Same.upd (o := .tup [.int c, .ref l]) (Same.refl H3) htt
      have s14 := s13.trans s4
      have O3 := ((hO o mo).same s14)
      refine ⟨_, rfl, tt, o.t, l, o.l, c, o.c, S, o.S, rfl, upd_same, O3.tup, (L1.same s14).r, O3.st.r, len, O3.ok.len, fun H5 s5 => ?_⟩
      have s15 := s14.trans s5
      have X5 := X1.same s15
      have Y5 := (Y.same s4).same s5
      refine ⟨_, _, rfl, ?_⟩
      have al := alk_iff (c := c) (d := o.c) D.ok O3.ok
      have al2 : (decide (o.c = c) && decide (keptS o.c o.S = keptS c S)) = alk c o.c S o.S := by
        rw [al, Bool.eq_iff_iff, Bool.and_eq_true, Bool.and_eq_true, decide_eq_true_eq, decide_eq_true_eq, decide_eq_true_eq, decide_eq_true_eq]
        exact ⟨fun h => ⟨h.1.symm, h.2.symm⟩, fun h => ⟨h.1.symm, h.2.symm⟩⟩
      generalize alk c o.c S o.S = b at *
      obtain ⟨b1, b2, b3⟩ := bl3_sz b
      refine ⟨_, rfl, _, rfl, sp_own_eq T X5 Y5 ?_⟩
      rw [← al]
      refine ⟨_, rfl, _, rfl, sp_own_eq T Y5 X5 ?_⟩
      rw [al2]
      refine ⟨_, rfl, _, rfl, sp_own_ne T X5 Y5 ?_⟩
      rw [← al]
      refine ⟨(by show 3 ≤ sizeLine; decide), fun B hB => ?_⟩
      have s6 := Same.upd (o := .lst [.bl b, .bl b, .bl (!b)]) (Same.refl H5) hB
      refine ⟨.ref B, bl3 b, rfl, .lst (SqL.of upd_same) (.cons (.bl _) (.cons (.bl _) (.cons (.bl _) .nil))), b1, b2, b3, ?_⟩
      refine ⟨_, rfl, _, rfl, _, rfl, _, rfl, (by show 3 ≤ sizeLine; decide), fun C hC => ?_⟩
      have s7 := s6.trans (Same.upd (o := .lst [.bl b, .bl b, .bl (!b)]) (Same.refl _) hC)
      refine ⟨.ref C, bl3 b, rfl, .lst (SqL.of upd_same) (.cons (.bl _) (.cons (.bl _) (.cons (.bl _) .nil))), b1, b2, b3, ?_⟩
      refine ⟨rfl, _, rfl, iteNeV ?_⟩
      exact ⟨_, _, _, rfl, s15.trans s7⟩
    rintro σ H2 ⟨v4, v5, v6, rfl, s2⟩
    have X2 := X1.same s2
    have L2 := L1.same s2
    have e2 := e1.same s2
    refine ⟨_, rfl, _, rfl, _, rfl, _, rfl, (by show 2 ≤ sizeLine; decide), fun tt htt => ?_⟩
    have u1 := Same.upd (o := .tup [.int c, .ref l]) (Same.refl H2) htt
    have t1 : upd H2 tt (.tup [.int c, .ref l]) tt = some (.tup [.int c, .ref l]) := upd_same
    generalize upd H2 tt (.tup [.int c, .ref l]) = H3 at *
    refine ⟨(by show 0 ≤ sizeLine; decide), fun e0 he0 => ?_⟩
    have u2 := Same.upd (o := .lst []) (Same.refl H3) he0
    have t2 : upd H3 e0 (.lst []) e0 = some (.lst []) := upd_same
    generalize upd H3 e0 (.lst []) = H4 at *
    refine ⟨(by show 6 ≤ sizeLine; decide), fun tp htp => ?_⟩
    generalize hxs : ([.non, .int c, .ref l, .ref tt, .ref e0, .str ""] : List V) = things at *
    have tl : things.length = 6 := by rw [← hxs]; rfl
    have u3 := Same.upd (o := .tup things) (Same.refl H4) htp
    have t3 : upd H4 tp (.tup things) tp = some (.tup things) := upd_same
    generalize upd H4 tp (.tup things) = H5 at *
    have s25 := (u1.trans u2).trans u3
    obtain ⟨zs, hl, _, _, _⟩ := L2
    have kd : ∀ (i : Nat) (v : V), things[i]? = some v → ∃ n, TyX K H5 v (.type n) ∧ n ∈ VN.kinds := fun i v hv => by
      subst hxs
      match i, hv with
      | 0, e => cases e; exact ⟨_, .base .non, by decide⟩
      | 1, e => cases e; exact ⟨_, .base (.int _), by decide⟩
      | 2, e => cases e; exact ⟨_, .base (.lst (s25 _ _ hl)), by decide⟩
      | 3, e => cases e; exact ⟨_, .base (.tup (u3 _ _ (u2 _ _ t1))), by decide⟩
      | 4, e => cases e; exact ⟨_, .base (.lst (u3 _ _ t2)), by decide⟩
      | 5, e => cases e; exact ⟨_, .base (.str _), by decide⟩
      | n + 6, e => cases e
    have X5 := X2.same s25
    have e5 := e2.same s25
    clear u1 u2 u3 t1 t2 htt he0 htp hxs
    refine ⟨tp, rfl, ⟨_, SqT.of t3⟩, fun D hD => ?_⟩
    refine lc_tup (K := K) (a := tp) (xs := things) (fun j H' => H' D = some (.lst ((List.replicate j false).map V.bl)) ∧ Same H5 H') ⟨upd_same, Same.upd (Same.refl _) hD⟩ (fun i H' _ h => SqT.of (h.2 _ _ t3)) ?_ ?_
    · rintro j v H6 hv ⟨hD6, s6⟩
      obtain ⟨n, ty, hn⟩ := kd j v hv
      have jl : j < things.length := (List.getElem?_eq_some_iff.mp hv).1
      have ty6 : TyX K H6 v (.type n) := ty_same ty s6 hn
      obtain ⟨dx, lc, ls, hx, _⟩ := id (X5.same s6)
      refine ⟨rfl, _, rfl, _, rfl, x, dx, _, _, rfl, hx, ty6, VN.notFirst_ty hn, r, x, c, S, v, rfl, X5.same s6, .inr ⟨n, ty6, hn, ⟨_, rfl, ?_⟩⟩⟩
      refine ⟨_, hD6, small (by rw [List.length_map, List.length_replicate]; omega), ?_, Same.upd s6 hD⟩
      rw [upd_same, List.replicate_succ', List.map_append]; rfl
    rintro H6 ⟨hD6, s6⟩
    refine ⟨D, _, rfl, SqL.of hD6, ?_⟩
    have e : (List.replicate things.length false).any id = false := by
      rw [List.any_eq_false]
      intro y hy
      rw [List.eq_of_mem_replicate hy]
      decide
    rw [e]
    exact ⟨_, rfl, k _ (e5.same s6)⟩
end
end VK


namespace VK
open PySem PySem.Spec PyProof.Rows L2 VM
open VD (SqB)
theorem SpAt.put {A : Ad} {r f : Addr} {H : Hp} {x : Addr} {c : Int} {S : List Stp} {o : HO} (h : SpAt A r H x c S) (g : SpAt A f H x c S) : SpAt A r (upd H f o) x c S := by
  obtain ⟨dx, lc, ls, h1, h2, h3, h4, h5, h6⟩ := h
  obtain ⟨dy, lc2, ls2, g1, g2, g3, g4, g5, g6⟩ := g
  have e : sfs c lc ls (lastV c S) = sfs c lc2 ls2 (lastV c S) := by
    have := h1.symm.trans g1
    injection this with this
    injection this
  unfold sfs at e
  injection e with _ e
  injection e with e1 e
  injection e with e2 e
  injection e1 with _ e1
  injection e2 with _ e2
  injection e1 with e1
  injection e2 with e2
  subst e1 e2
  exact ⟨dx, lc, ls, by rw [upd_ne g4]; exact h1, (h2.put g2).1, by rw [upd_ne g5]; exact h3, h4, h5, h6⟩
theorem sum_const (c : Int) : ∀ d : Nat, ((List.range d).map fun _ : Nat => c).sum = d * c
  | 0 => by simp
  | d + 1 => by
    rw [List.range_succ, List.map_append, List.sum_append, sum_const c d, show ((d + 1 : Nat) : Int) = (d : Int) + 1 by omega, Int.add_mul, Int.one_mul]
    simp
def spL (K : PySem.W.Frag) : Sp := fun vs H Q _ => ∃ (a : Addr) (ns : List Int), vs = [.ref a] ∧ SqL K H a (ns.map V.int) ∧ ns.length ≤ 63 ∧ ∀ H', Q (.bl true) H'
def sp_law (K : PySem.W.Frag) (_ : Ad) : Sp := spL K
section
variable {P : Program} {w : World} {K : PySem.W.Frag} {mg : Str → Option Value} {base : Heap} {A : Ad}
theorem ok_law (T : Txt K mg A) : VG.FnG P w K mg base CX0 10 A.f_law A.d_law ["_law_script"] (sp_law K A) := by
  have G_Supply_between := ok_Supply_between (P := P) (w := w) (base := base) T
  have G_Supply_changes := ok_Supply_changes (P := P) (w := w) (base := base) T
  have G_Supply_eq := ok_Supply_eq (P := P) (w := w) (base := base) T
  have G_Supply_init := ok_Supply_init (P := P) (w := w) (base := base) T
  have G_l_asked := ok_l_asked (P := P) (w := w) (base := base) T
  have G_l_changes := ok_l_changes (P := P) (w := w) (base := base) T
  have G_l_draw := ok_l_draw (P := P) (w := w) (base := base) T
  have G_l_equal_right := ok_l_equal_right (P := P) (w := w) (base := base) T
  have G_l_rng := ok_l_rng (P := P) (w := w) (base := base) T
  have G_Supply_eq := ok_Supply_eq (P := P) (w := w) (base := base) T
  have G_Supply_init := ok_Supply_init (P := P) (w := w) (base := base) T
  obtain ⟨ds3, hv3, hb3⟩ := db_s3 T
  obtain ⟨ds2, hv2, hb2⟩ := db_s2 T
  obtain ⟨mv1, kb_Supply_changes_capacity⟩ := kb_sc T
  refine VG.okG0 T.F_law sc_law (fun vs H Q E h => ?_) (fun cdv A0 outer s H vs Q E hA hr h => ?_)
  · obtain ⟨a, ns, rfl, hS, hn, k⟩ := h
    rfl
  · obtain ⟨a, ns, rfl, hS, hn, k⟩ := h
    refine ⟨_, (pss_cons (ps_for PassesOwn.never rfl (pi_range1 rfl T.range (pa_cons (pe_callB (call_max2 rfl) (by rfl) T.max (by decide +kernel) (pa_cons pe_int (pa_cons (pe_callB (call_min2 rfl) (by rfl) T.min (by decide +kernel) (pa_cons (pe_callB (r := VG.rLen K) VG.call_len (by rfl) T.len (by decide +kernel) (pa_cons (pv 0) pa_nil)) (pa_cons pe_int pa_nil))) pa_nil))) pa_nil)) (pg_name (i := 1) sc_law.nd rfl (by first | exact Or.inl rfl | exact Or.inr rfl))
      (pss_cons (ps_set (i := 2) sc_law.nd rfl (by first | exact Or.inl rfl | exact Or.inr rfl) (pe_call G_l_rng (hr.mono (by decide)) rfl T.m_l_rng T.k_l_rng T.b_l_rng .nil pass0 (pa_cons (pv 0) (pa_cons (pv 1) pa_nil))))
    (pss_cons (ps_set (i := 3) sc_law.nd rfl (by first | exact Or.inl rfl | exact Or.inr rfl) (pe_call G_l_draw (hr.mono (by decide)) rfl T.m_l_draw T.k_l_draw T.b_l_draw .nil pass0 (pa_cons (pv 2) (pa_cons pe_int pa_nil))))
    (pss_cons (ps_set (i := 4) sc_law.nd rfl (by first | exact Or.inl rfl | exact Or.inr rfl) (pe_call G_l_changes (hr.mono (by decide)) rfl T.m_l_changes T.k_l_changes T.b_l_changes .nil pass0 (pa_cons (pv 2) (pa_cons (pv 3) pa_nil))))
    (pss_cons (ps_set (i := 5) sc_law.nd rfl (by first | exact Or.inl rfl | exact Or.inr rfl) (pe_callTy (r := VG.rListOf K) VG.call_listOf (by rfl) T.list (by decide +kernel) (pa_cons (pv 4) pa_nil)))
    (pss_cons (ps_set (i := 6) sc_law.nd rfl (by first | exact Or.inl rfl | exact Or.inr rfl) (pe_make T.M_Supply G_Supply_init (hr.mono (by decide)) rfl T.m_Supply hb3 hv3 pass0 (pa_cons (pv 3) (pa_cons (pv 5) pa_nil))))
    (pss_cons (ps_expr (pe_bm0 PySem.F.plainAttrs_list PySem.F.slot_list_clear PySem.F.type_list_clear mt_clear (pv 5)))
    (pss_cons (ps_if (PW.pt (pw_or (pt_not (pt_val (VG.pe_callG G_l_asked hA (hr.mono (by decide)) rfl T.m_l_asked T.k_l_asked T.b_l_asked pass0 (pa_cons (pv 2) (pa_cons (pv 6) (pa_cons (pv 3) (pa_cons (pv 4) pa_nil))))))) (pw_or1 (pt_not (pt_val (VG.pe_callG G_l_equal_right hA (hr.mono (by decide)) rfl T.m_l_equal_right T.k_l_equal_right T.b_l_equal_right pass0 (pa_cons (pv 2) (pa_cons (pv 6) (pa_cons (pv 3) (pa_cons (pv 4) pa_nil)))))))))) (pss_one (ps_ret pe_bl)) pss_nil)
    (pss_cons (ps_if (PW.pt (pw_or (pt_cmpR (VN.op_neOwn (C := A.Supply) G_Supply_eq (hr.mono (by decide)) T.me___eq__ T.ic_Supply T.b_Supply_eq pass0) (pe_makeK0 T.M_Supply G_Supply_init (hr.mono (by decide)) rfl T.m_Supply kb_Supply_changes_capacity pass0 (pk_cons (pe_callTy call_tuple_of (by rfl) T.tuple (by decide +kernel) (pa_cons (pv 4) pa_nil)) (pk_cons (pv 3) pk_nil))) (pv 6) (nomark _)) (pw_or1 (pt_cmpR (VN.op_neOwn (C := A.Supply) G_Supply_eq (hr.mono (by decide)) T.me___eq__ T.ic_Supply T.b_Supply_eq pass0) (pe_make T.M_Supply G_Supply_init (hr.mono (by decide)) rfl T.m_Supply hb2 hv2 pass0 (pa_cons (pv 3) pa_nil)) (pe_make T.M_Supply G_Supply_init (hr.mono (by decide)) rfl T.m_Supply hb3 hv3 pass0 (pa_cons (pv 3) (pa_cons (pe_lst pa_nil) pa_nil))) (nomark _))))) (pss_one (ps_ret pe_bl)) pss_nil)
    (pss_one (ps_if (PW.pt (pw_or (pt_cmpR op_ne (pe_meth (pe_make T.M_Supply G_Supply_init (hr.mono (by decide)) rfl T.m_Supply hb2 hv2 pass0 (pa_cons (pv 3) pa_nil)) T.clSupply T.me_between G_Supply_between (hr.mono (by decide)) T.b_Supply_between .nil pass0 (pa_cons pe_int (pa_cons pe_int pa_nil))) (pe_op op_mul pe_int (pv 3)) (nomark _)) (pw_or1 (pt_cmpR (op_neD hr.units) (pe_meth0 (pe_make T.M_Supply G_Supply_init (hr.mono (by decide)) rfl T.m_Supply hb2 hv2 pass0 (pa_cons (pv 3) pa_nil)) T.clSupply T.me_changes G_Supply_changes (hr.mono (by decide)) T.b_Supply_changes .nil pass0) (pe_lst pa_nil) (nomark _))))) (pss_one (ps_ret pe_bl)) pss_nil)))))))))))
    (pss_one (ps_ret pe_bl))), ?_⟩
    refine ⟨_, rfl, a, _, rfl, .inl hS, _, _, rfl, _, _, rfl, _, rfl, ?_⟩
    rw [List.length_map]
    have b6 : (if (if (4 : Int) < (ns.length : Int) then (4 : Int) else (ns.length : Int)) > 1 then (if (4 : Int) < (ns.length : Int) then (4 : Int) else (ns.length : Int)) else 1) ≤ 4 := by
      split <;> split <;> omega
    have b0 : 0 ≤ (if (if (4 : Int) < (ns.length : Int) then (4 : Int) else (ns.length : Int)) > 1 then (if (4 : Int) < (ns.length : Int) then (4 : Int) else (ns.length : Int)) else 1) := by
      split <;> split <;> omega
    generalize (if (if (4 : Int) < (ns.length : Int) then (4 : Int) else (ns.length : Int)) > 1 then (if (4 : Int) < (ns.length : Int) then (4 : Int) else (ns.length : Int)) else 1) = N at *
    refine ⟨by omega, by omega, ?_⟩
    refine for_range (lo := 0) (n := N.toNat) (fun i σ H' => ∃ v1 v2 v3 v4 v5 v6, σ = [some (.ref a), v1, v2, v3, v4, v5, v6] ∧ Same H H') ⟨_, _, _, _, _, _, rfl, Same.refl _⟩ ?_ ?_
    · rintro i σ H1 hi ⟨v1, v2, v3, v4, v5, v6, rfl, s1⟩
      refine ⟨_, rfl, _, rfl, a, ns, _, rfl, s1.seq hS, by omega, by omega, fun H2 r s2 hr0 hr1 => ?_⟩
      have top : ∀ {H' : Hp}, Ext r H2 H' → Same H H' := fun e b o h => e.keep b o (ne_of_none (s1 _ _ h) hr0) (s2 _ _ (s1 _ _ h))
      refine ⟨_, rfl, r, _, rfl, hr1, by decide, by decide, fun H3 c e3 c0 c20 => ?_⟩
      have c1 : c ≤ 20 := by omega
      refine ⟨_, rfl, _, rfl, r, c, rfl, e3.rng, c0, c1, fun H4 l S e4 hl0 L D => ?_⟩
      have e24 := e3.trans e4
      obtain ⟨zs, hl, hz, eS, nl⟩ := id L
      refine ⟨_, rfl, l, _, rfl, .inl (SqL.of hl), fun g hg => ?_⟩
      have ngr := e24.rng.ne hg
      have s5 := Same.upd (o := .lst (zV zs)) (Same.refl H4) hg
      have g5 : upd H4 g (.lst (zV zs)) g = some (.lst (zV zs)) := upd_same
      generalize upd H4 g (.lst (zV zs)) = H5 at *
      have B5 : StB K H5 g S := ⟨zs, .inl (SqL.of g5), fun z h => s5 _ _ (hz z h).1, eS⟩
      have rn : ∀ {H' : Hp}, Rng H' r → H' r ≠ none := fun h => by obtain ⟨_, _, e, _⟩ := h; rw [e]; exact fun z => nomatch z
      refine ⟨_, rfl, _, rfl, fun x dx hx hdx hne => ?_⟩
      refine ⟨x, dx, g, c, S, rfl, upd_same, B5.same (Same.upd (Same.upd (Same.refl H5) hdx) hx), D.ok, c0, c1, fun H6 keep sp => ⟨rfl, ?_⟩⟩
      have s6 := make_same hx hdx keep
      have e26 := (e24.same s5).same s6
      have low : ∀ {b : Addr}, H5 b ≠ none → upd (upd H5 dx (.own x)) x (.ins A.Supply dx []) b ≠ none := fun h z => h ((Same.upd (Same.upd (Same.refl H5) hdx) hx).free z)
      have Xr := sp r (low (rn (e24.same s5).rng)) (fun e => rn (e24.same s5).rng (e ▸ hx))
      have Xg := sp g (low (by rw [g5]; exact fun z => nomatch z)) (fun e => by rw [← e, g5] at hx; cases hx)
      have X7 := Xr.put (o := .lst []) Xg
      have g6 := s6 _ _ g5
      have s7 : Same H4 (upd H6 g (.lst [])) := fun b o h => by rw [upd_ne (ne_of_none h hg)]; exact s6 _ _ (s5 _ _ h)
      refine ⟨_, rfl, .inl ⟨rfl, _, SqL.of g6⟩, g, _, rfl, rfl, g6, ?_⟩
      generalize upd H6 g (.lst []) = H7 at *
      have e27 := e24.same s7
      have L7 := L.same s7
      clear Xr Xg low sp keep hx hdx hne B5 g5 g6 s5 s6 hg e26 e24 e3 e4 L hl hz
      refine ⟨_, rfl, _, rfl, _, rfl, _, rfl, r, x, l, c, S, rfl, e27.rng, X7, L7, D, c0, c1, fun H8 e8 => ⟨_, rfl, iteF ?_⟩⟩
      have X8 := X7.ext e8
      have L8 := L7.ext e8
      have e28 := e27.trans e8
      refine ⟨_, rfl, _, rfl, _, rfl, _, rfl, r, x, l, c, S, rfl, e28.rng, X8, L8, D, c0, c1, fun H9 e9 => ⟨_, rfl, iteF ?_⟩⟩
      have X9 := X8.ext e9
      have L9 := L8.ext e9
      have e29 := e28.trans e9
      clear X7 X8 L7 L8 e27 e28 e8 e9 s7
      obtain ⟨zs9, hl9, hz9, eS9, _⟩ := id L9
      refine ⟨_, rfl, l, _, rfl, .inl ⟨SqL.of hl9, fun tp htp => ?_⟩⟩
      have u1 := Same.upd (o := .tup (zV zs9)) (Same.refl H9) htp
      have t1 : upd H9 tp (.tup (zV zs9)) tp = some (.tup (zV zs9)) := upd_same
      generalize upd H9 tp (.tup (zV zs9)) = G1 at *
      have B1 : StB K G1 tp S := ⟨zs9, .inr (SqT.of t1), fun z h => u1 _ _ (hz9 z h).1, eS9⟩
      have E1 := e29.same u1
      refine ⟨_, rfl, rfl, rfl, fun y dy hy hdy hne => ?_⟩
      refine ⟨y, dy, tp, c, S, rfl, upd_same, B1.same (Same.upd (Same.upd (Same.refl G1) hdy) hy), D.ok, c0, c1, fun G2 keep sp => ⟨rfl, ?_⟩⟩
      have u2 := make_same hy hdy keep
      have Y := sp r (fun z => rn E1.rng ((Same.upd (o := .ins A.Supply dy []) (Same.upd (o := .own y) (Same.refl G1) hdy) hy).free z)) (fun e => rn E1.rng (e ▸ hy))
      have X2 := (X9.same u1).same u2
      have E2 := E1.same u2
      clear keep sp hy hdy hne B1 t1 htp
      refine ⟨_, rfl, sp_own_ne T Y X2 ?_⟩
      rw [decide_eq_true rfl, decide_eq_true rfl]
      refine ⟨_, rfl, iteF ?_⟩
      have eb : ∀ {H' : Hp}, StB K H' A.e_Supply_init0 [] := fun {H'} => ⟨[], .inr (T.e_Supply_init0_ H'), (fun z h => nomatch h), rfl⟩
      have mk0 : ∀ {H' : Hp} {l0 : Addr}, Rng H' r → StB K H' l0 [] → ∀ {y dy : Addr}, H' y = none → H' dy = none → dy ≠ y → ∀ {Q' : VK} {E' : XK}, (∀ H'' , Same H' H'' → SpAt A r H'' y c [] → Q' .non H'') →
          sp_Supply_init K A [.ref y, .int c, .ref l0] (upd (upd H' dy (.own y)) y (.ins A.Supply dy [])) Q' E' := fun {H' l0} hr' hb {y dy} hy hdy hne {Q' E'} kk =>
        ⟨y, dy, l0, c, [], rfl, upd_same, hb.same (Same.upd (Same.upd (Same.refl H') hdy) hy), Stps.nil, c0, c1, fun H'' keep sp => kk H'' (make_same hy hdy keep) (sp r (fun z => rn hr' ((Same.upd (o := .ins A.Supply dy []) (Same.upd (o := .own y) (Same.refl H') hdy) hy).free z)) (fun e => rn hr' (e ▸ hy)))⟩
      refine ⟨_, rfl, fun y2 dy2 hy hdy hne => ?_⟩
      refine mk0 E2.rng eb hy hdy hne fun G3 u3 Y2 => ⟨rfl, ?_⟩
      clear hy hdy hne
      have E3 := E2.same u3
      refine ⟨_, rfl, (by show 0 ≤ sizeLine; decide), fun q hq => fun y3 dy3 hy hdy hne => ?_⟩
      have u4 := Same.upd (o := .lst []) (Same.refl G3) hq
      refine mk0 (E3.rng.same u4) (l0 := q) ⟨[], .inl (SqL.of upd_same), (fun z h => nomatch h), rfl⟩ hy hdy hne fun G4 u5 Y3 => ⟨rfl, ?_⟩
      clear hy hdy hne
      have E4 := (E3.same u4).same u5
      refine sp_own_ne T ((Y2.same u4).same u5) Y3 ?_
      rw [decide_eq_true rfl, decide_eq_true rfl]
      refine ⟨_, rfl, iteF ?_⟩
      refine ⟨_, rfl, fun y4 dy4 hy hdy hne => ?_⟩
      refine mk0 E4.rng eb hy hdy hne fun G5 u6 Y4 => ⟨rfl, ?_⟩
      clear hy hdy hne
      have E5 := E4.same u6
      have no : ∀ {H' : Hp} {y : Addr}, SpAt A r H' y c [] → ∃ dx fs, H' y = some (.ins A.Supply dx fs) ∧ fs.lookup ("between" : Str) = none ∧ fs.lookup ("changes" : Str) = none := fun h => by
        obtain ⟨dx, lc, ls, hx, _⟩ := h
        exact ⟨dx, _, hx, sfs_no _ _ _ _ (by decide +kernel) (by decide +kernel) (by decide +kernel) (by decide +kernel), sfs_no _ _ _ _ (by decide +kernel) (by decide +kernel) (by decide +kernel) (by decide +kernel)⟩
      obtain ⟨d4, f4, x4, no4, _⟩ := no Y4
      refine ⟨y4, d4, f4, rfl, x4, no4, ?_⟩
      refine ⟨r, y4, c, [], 0, 1000, rfl, Y4, by decide, by decide, c0, c1, ?_⟩
      have es : ((List.range 1000).map fun i : Nat => atF c [] (((0 : Nat) : Int) + i)).sum = 1000 * c := sum_const c 1000
      rw [es]
      refine ⟨_, rfl, _, _, rfl, rfl, .inl ⟨by decide, by decide⟩, rfl, _, rfl, iteNeV ?_⟩
      refine ⟨_, rfl, fun y5 dy5 hy hdy hne => ?_⟩
      refine mk0 E5.rng eb hy hdy hne fun G6 u7 Y5 => ⟨rfl, ?_⟩
      clear hy hdy hne
      have E6 := E5.same u7
      obtain ⟨d5, f5, x5, _, no5⟩ := no Y5
      refine ⟨y5, d5, f5, rfl, x5, no5, r, y5, c, [], rfl, Y5, fun G7 p u8 hp0 _ ⟨zs, hp, hz, hS⟩ => ?_⟩
      refine ⟨(by show 0 ≤ sizeLine; decide), fun e0 he0 => ?_⟩
      have u9 := Same.upd (o := .lst []) (Same.refl G7) he0
      refine ⟨dSt (zS zs), dSt [], .lst (SqL.of (u9 _ _ hp)) (dp_steps fun z h => u9 _ _ (hz z h).1), .lst (SqL.of upd_same) .nil, shaped_steps _, shaped_steps _, ?_⟩
      rw [eqv_steps, hS, show keptS c [] = [] from rfl, decide_eq_true rfl]
      refine ⟨_, rfl, iteF ?_⟩
      exact ⟨_, _, _, _, _, _, rfl, top (E6.same (u8.trans u9))⟩
    · rintro σ H1 ⟨v1, v2, v3, v4, v5, v6, rfl, s1⟩
      exact k _
end
end VK


namespace VK
open PySem PySem.Spec PyProof.Rows L2 VM
theorem all_mk {l : PySem.W.OpenLaw} {w : World} {K : PySem.W.Frag} {h : Heap} {mg : Str → Option Value} {fa : Addr} (X : K.In h) (G : h.Ns mainGlobals mg) (hfa : mg "law" = some (.ref fa))
    {C_Supply : Addr}
    {f_is_integer : Addr} {od_is_integer an_is_integer : Option Addr} {sl_is_integer : Array (Option Value)} {oc_is_integer kV_is_integer dc_is_integer pm_is_integer cd_is_integer ct_is_integer : Value}
    {f_is_count : Addr} {od_is_count an_is_count : Option Addr} {sl_is_count : Array (Option Value)} {oc_is_count kV_is_count dc_is_count pm_is_count cd_is_count ct_is_count : Value}
    {f_is_count_to : Addr} {od_is_count_to an_is_count_to : Option Addr} {sl_is_count_to : Array (Option Value)} {oc_is_count_to kV_is_count_to dc_is_count_to pm_is_count_to cd_is_count_to ct_is_count_to : Value}
    {f_require_count_to : Addr} {od_require_count_to an_require_count_to : Option Addr} {sl_require_count_to : Array (Option Value)} {oc_require_count_to kV_require_count_to dc_require_count_to pm_require_count_to cd_require_count_to ct_require_count_to : Value}
    {f_require_tick : Addr} {od_require_tick an_require_tick : Option Addr} {sl_require_tick : Array (Option Value)} {oc_require_tick kV_require_tick dc_require_tick pm_require_tick cd_require_tick ct_require_tick : Value}
    {f_is_window : Addr} {od_is_window an_is_window : Option Addr} {sl_is_window : Array (Option Value)} {oc_is_window kV_is_window dc_is_window pm_is_window cd_is_window ct_is_window : Value}
    {f_require_window : Addr} {od_require_window an_require_window : Option Addr} {sl_require_window : Array (Option Value)} {oc_require_window kV_require_window dc_require_window pm_require_window cd_require_window ct_require_window : Value}
    {f_Supply_init : Addr} {od_Supply_init an_Supply_init : Option Addr} {sl_Supply_init : Array (Option Value)} {oc_Supply_init kV_Supply_init dc_Supply_init pm_Supply_init cd_Supply_init ct_Supply_init : Value}
    {e_Supply_init0 : Addr} {eod_Supply_init0 : Option Addr} {en_Supply_init0 : Nat} {esl_Supply_init0 : Array (Option Value)}
    {DT_Supply_init : Addr} {dto_Supply_init : Option Addr} {dtn_Supply_init : Nat} {dts_Supply_init : Array (Option Value)}
    {f_Supply_eq : Addr} {od_Supply_eq an_Supply_eq : Option Addr} {sl_Supply_eq : Array (Option Value)} {oc_Supply_eq kV_Supply_eq dc_Supply_eq pm_Supply_eq cd_Supply_eq ct_Supply_eq : Value}
    {f_Supply_at : Addr} {od_Supply_at an_Supply_at : Option Addr} {sl_Supply_at : Array (Option Value)} {oc_Supply_at kV_Supply_at dc_Supply_at pm_Supply_at cd_Supply_at ct_Supply_at : Value}
    {f_Supply_between : Addr} {od_Supply_between an_Supply_between : Option Addr} {sl_Supply_between : Array (Option Value)} {oc_Supply_between kV_Supply_between dc_Supply_between pm_Supply_between cd_Supply_between ct_Supply_between : Value}
    {f_Supply_changes : Addr} {od_Supply_changes an_Supply_changes : Option Addr} {sl_Supply_changes : Array (Option Value)} {oc_Supply_changes kV_Supply_changes dc_Supply_changes pm_Supply_changes cd_Supply_changes ct_Supply_changes : Value}
    {f_Supplybefore : Addr} {od_Supplybefore an_Supplybefore : Option Addr} {sl_Supplybefore : Array (Option Value)} {oc_Supplybefore kV_Supplybefore dc_Supplybefore pm_Supplybefore cd_Supplybefore ct_Supplybefore : Value}
    {f_kept_changes : Addr} {od_kept_changes an_kept_changes : Option Addr} {sl_kept_changes : Array (Option Value)} {oc_kept_changes kV_kept_changes dc_kept_changes pm_kept_changes cd_kept_changes ct_kept_changes : Value}
    {f_sums_to_last : Addr} {od_sums_to_last an_sums_to_last : Option Addr} {sl_sums_to_last : Array (Option Value)} {oc_sums_to_last kV_sums_to_last dc_sums_to_last pm_sums_to_last cd_sums_to_last ct_sums_to_last : Value}
    {f_find_wrong_change : Addr} {od_find_wrong_change an_find_wrong_change : Option Addr} {sl_find_wrong_change : Array (Option Value)} {oc_find_wrong_change kV_find_wrong_change dc_find_wrong_change pm_find_wrong_change cd_find_wrong_change ct_find_wrong_change : Value}
    {f_is_change : Addr} {od_is_change an_is_change : Option Addr} {sl_is_change : Array (Option Value)} {oc_is_change kV_is_change dc_is_change pm_is_change cd_is_change ct_is_change : Value}
    {f_l_rng : Addr} {od_l_rng an_l_rng : Option Addr} {sl_l_rng : Array (Option Value)} {oc_l_rng kV_l_rng dc_l_rng pm_l_rng cd_l_rng ct_l_rng : Value}
    {f_l_draw : Addr} {od_l_draw an_l_draw : Option Addr} {sl_l_draw : Array (Option Value)} {oc_l_draw kV_l_draw dc_l_draw pm_l_draw cd_l_draw ct_l_draw : Value}
    {f_l_choice : Addr} {od_l_choice an_l_choice : Option Addr} {sl_l_choice : Array (Option Value)} {oc_l_choice kV_l_choice dc_l_choice pm_l_choice cd_l_choice ct_l_choice : Value}
    {f_l_changes : Addr} {od_l_changes an_l_changes : Option Addr} {sl_l_changes : Array (Option Value)} {oc_l_changes kV_l_changes dc_l_changes pm_l_changes cd_l_changes ct_l_changes : Value}
    {f_l_at : Addr} {od_l_at an_l_at : Option Addr} {sl_l_at : Array (Option Value)} {oc_l_at kV_l_at dc_l_at pm_l_at cd_l_at ct_l_at : Value}
    {f_l_real : Addr} {od_l_real an_l_real : Option Addr} {sl_l_real : Array (Option Value)} {oc_l_real kV_l_real dc_l_real pm_l_real cd_l_real ct_l_real : Value}
    {f_l_ticks : Addr} {od_l_ticks an_l_ticks : Option Addr} {sl_l_ticks : Array (Option Value)} {oc_l_ticks kV_l_ticks dc_l_ticks pm_l_ticks cd_l_ticks ct_l_ticks : Value}
    {f_l_asked : Addr} {od_l_asked an_l_asked : Option Addr} {sl_l_asked : Array (Option Value)} {oc_l_asked kV_l_asked dc_l_asked pm_l_asked cd_l_asked ct_l_asked : Value}
    {f_l_others : Addr} {od_l_others an_l_others : Option Addr} {sl_l_others : Array (Option Value)} {oc_l_others kV_l_others dc_l_others pm_l_others cd_l_others ct_l_others : Value}
    {f_l_alike : Addr} {od_l_alike an_l_alike : Option Addr} {sl_l_alike : Array (Option Value)} {oc_l_alike kV_l_alike dc_l_alike pm_l_alike cd_l_alike ct_l_alike : Value}
    {f_l_equal_right : Addr} {od_l_equal_right an_l_equal_right : Option Addr} {sl_l_equal_right : Array (Option Value)} {oc_l_equal_right kV_l_equal_right dc_l_equal_right pm_l_equal_right cd_l_equal_right ct_l_equal_right : Value}
    {f_law : Addr} {od_law an_law : Option Addr} {sl_law : Array (Option Value)} {oc_law kV_law dc_law pm_law cd_law ct_law : Value}
    {t_MAX_CAPACITY : Tok}
    {t_MAX_TICK : Tok}
    (g_Supply : PySem.W.nsIn K mainGlobals "Supply" = some (some (.ref C_Supply)))
    (pg_Supply : PySem.W.plainGet K C_Supply Str.empty = true)
    (hd_Supply : PySem.W.hasDictIn K C_Supply = true)
    (po_Supply : PySem.W.plainOver K C_Supply = true)
    (sa_Supply : PySem.W.findIn K (.ref C_Supply) "__setattr__" = some (some (.builtin "object.__setattr__")))
    (mk_Supply : PySem.W.makesIn K C_Supply = true)
    (kc_Supply : PySem.W.keepIn K (.ref C_Supply) = true)
    (ic_Supply : PySem.W.isClsIn K C_Supply = true)
    (it_Supply : PySem.W.typeIn K (.ref C_Supply) = some (.type "type"))
    (ig_Supply : PySem.W.findIn K (.ref C_Supply) "__class__" = some (some (.builtin "object.__class__")))
    (io_Supply : PySem.W.mroIn K C_Supply (.type "object") = some true)
    (ie_Supply : PySem.W.findIn K (.ref C_Supply) "__ne__" = some (some (.builtin "object.__ne__")))
    (i_gn : PySem.W.specialIn K (.builtin "object.__class__") "__get__" = some (some (.builtin "getset_descriptor.__get__")))
    (i_tk : PySem.W.takesIn K (.builtin "object.__class__") = some true)
    (n_Supply_first : PySem.W.findIn K (.ref C_Supply) "_first" = some none)
    (n_Supply_changes : PySem.W.findIn K (.ref C_Supply) "_changes" = some none)
    (n_Supply_sums : PySem.W.findIn K (.ref C_Supply) "_sums" = some none)
    (n_Supply_last : PySem.W.findIn K (.ref C_Supply) "_last" = some none)
    (a_is_integer : PySem.W.nsIn K mainGlobals "is_integer" = some (some (.ref f_is_integer)))
    (l_is_integer : K.lookup f_is_integer = some ⟨oc_is_integer, od_is_integer, .func (PySem.W.fnOf "is_integer" "is_integer" (defArgs s_is_integer) (defBody s_is_integer) (defScope s_is_integer) .none kV_is_integer dc_is_integer pm_is_integer an_is_integer cd_is_integer ct_is_integer), sl_is_integer⟩)
    (c_is_integer : PySem.W.codeIn K cd_is_integer "is_integer" = true)
    (k_is_integer : PySem.W.keepIn K (.ref f_is_integer) = true)
    (a_is_count : PySem.W.nsIn K mainGlobals "is_count" = some (some (.ref f_is_count)))
    (l_is_count : K.lookup f_is_count = some ⟨oc_is_count, od_is_count, .func (PySem.W.fnOf "is_count" "is_count" (defArgs s_is_count) (defBody s_is_count) (defScope s_is_count) .none kV_is_count dc_is_count pm_is_count an_is_count cd_is_count ct_is_count), sl_is_count⟩)
    (c_is_count : PySem.W.codeIn K cd_is_count "is_count" = true)
    (k_is_count : PySem.W.keepIn K (.ref f_is_count) = true)
    (a_is_count_to : PySem.W.nsIn K mainGlobals "is_count_to" = some (some (.ref f_is_count_to)))
    (l_is_count_to : K.lookup f_is_count_to = some ⟨oc_is_count_to, od_is_count_to, .func (PySem.W.fnOf "is_count_to" "is_count_to" (defArgs s_is_count_to) (defBody s_is_count_to) (defScope s_is_count_to) .none kV_is_count_to dc_is_count_to pm_is_count_to an_is_count_to cd_is_count_to ct_is_count_to), sl_is_count_to⟩)
    (c_is_count_to : PySem.W.codeIn K cd_is_count_to "is_count_to" = true)
    (k_is_count_to : PySem.W.keepIn K (.ref f_is_count_to) = true)
    (a_require_count_to : PySem.W.nsIn K mainGlobals "require_count_to" = some (some (.ref f_require_count_to)))
    (l_require_count_to : K.lookup f_require_count_to = some ⟨oc_require_count_to, od_require_count_to, .func (PySem.W.fnOf "require_count_to" "require_count_to" (defArgs s_require_count_to) (defBody s_require_count_to) (defScope s_require_count_to) .none kV_require_count_to dc_require_count_to pm_require_count_to an_require_count_to cd_require_count_to ct_require_count_to), sl_require_count_to⟩)
    (c_require_count_to : PySem.W.codeIn K cd_require_count_to "require_count_to" = true)
    (k_require_count_to : PySem.W.keepIn K (.ref f_require_count_to) = true)
    (a_require_tick : PySem.W.nsIn K mainGlobals "require_tick" = some (some (.ref f_require_tick)))
    (l_require_tick : K.lookup f_require_tick = some ⟨oc_require_tick, od_require_tick, .func (PySem.W.fnOf "require_tick" "require_tick" (defArgs s_require_tick) (defBody s_require_tick) (defScope s_require_tick) .none kV_require_tick dc_require_tick pm_require_tick an_require_tick cd_require_tick ct_require_tick), sl_require_tick⟩)
    (c_require_tick : PySem.W.codeIn K cd_require_tick "require_tick" = true)
    (k_require_tick : PySem.W.keepIn K (.ref f_require_tick) = true)
    (a_is_window : PySem.W.nsIn K mainGlobals "is_window" = some (some (.ref f_is_window)))
    (l_is_window : K.lookup f_is_window = some ⟨oc_is_window, od_is_window, .func (PySem.W.fnOf "is_window" "is_window" (defArgs s_is_window) (defBody s_is_window) (defScope s_is_window) .none kV_is_window dc_is_window pm_is_window an_is_window cd_is_window ct_is_window), sl_is_window⟩)
    (c_is_window : PySem.W.codeIn K cd_is_window "is_window" = true)
    (k_is_window : PySem.W.keepIn K (.ref f_is_window) = true)
    (a_require_window : PySem.W.nsIn K mainGlobals "require_window" = some (some (.ref f_require_window)))
    (l_require_window : K.lookup f_require_window = some ⟨oc_require_window, od_require_window, .func (PySem.W.fnOf "require_window" "require_window" (defArgs s_require_window) (defBody s_require_window) (defScope s_require_window) .none kV_require_window dc_require_window pm_require_window an_require_window cd_require_window ct_require_window), sl_require_window⟩)
    (c_require_window : PySem.W.codeIn K cd_require_window "require_window" = true)
    (k_require_window : PySem.W.keepIn K (.ref f_require_window) = true)
    (a_Supply_init : PySem.W.findIn K (.ref C_Supply) "__init__" = some (some (.ref f_Supply_init)))
    (i_Supply_init : PySem.W.isFn K (.ref f_Supply_init) = true)
    (l_Supply_init : K.lookup f_Supply_init = some ⟨oc_Supply_init, od_Supply_init, .func (PySem.W.fnOf "__init__" "Supply.__init__" (defArgs s_Supply_init) (defBody s_Supply_init) (defScope s_Supply_init) (.ref DT_Supply_init) kV_Supply_init dc_Supply_init pm_Supply_init an_Supply_init cd_Supply_init ct_Supply_init), sl_Supply_init⟩)
    (c_Supply_init : PySem.W.codeIn K cd_Supply_init "Supply.__init__" = true)
    (ld_Supply_init : K.lookup DT_Supply_init = some ⟨.type "tuple", dto_Supply_init, .seq #[.ref e_Supply_init0] dtn_Supply_init, dts_Supply_init⟩)
    (le_Supply_init0 : K.lookup e_Supply_init0 = some ⟨.type "tuple", eod_Supply_init0, .seq #[] en_Supply_init0, esl_Supply_init0⟩)
    (k_Supply_init : PySem.W.keepIn K (.ref f_Supply_init) = true)
    (a_Supply_eq : PySem.W.findIn K (.ref C_Supply) "__eq__" = some (some (.ref f_Supply_eq)))
    (i_Supply_eq : PySem.W.isFn K (.ref f_Supply_eq) = true)
    (l_Supply_eq : K.lookup f_Supply_eq = some ⟨oc_Supply_eq, od_Supply_eq, .func (PySem.W.fnOf "__eq__" "Supply.__eq__" (defArgs s_Supply_eq) (defBody s_Supply_eq) (defScope s_Supply_eq) .none kV_Supply_eq dc_Supply_eq pm_Supply_eq an_Supply_eq cd_Supply_eq ct_Supply_eq), sl_Supply_eq⟩)
    (c_Supply_eq : PySem.W.codeIn K cd_Supply_eq "Supply.__eq__" = true)
    (k_Supply_eq : PySem.W.keepIn K (.ref f_Supply_eq) = true)
    (a_Supply_at : PySem.W.findIn K (.ref C_Supply) "at" = some (some (.ref f_Supply_at)))
    (i_Supply_at : PySem.W.isFn K (.ref f_Supply_at) = true)
    (l_Supply_at : K.lookup f_Supply_at = some ⟨oc_Supply_at, od_Supply_at, .func (PySem.W.fnOf "at" "Supply.at" (defArgs s_Supply_at) (defBody s_Supply_at) (defScope s_Supply_at) .none kV_Supply_at dc_Supply_at pm_Supply_at an_Supply_at cd_Supply_at ct_Supply_at), sl_Supply_at⟩)
    (c_Supply_at : PySem.W.codeIn K cd_Supply_at "Supply.at" = true)
    (k_Supply_at : PySem.W.keepIn K (.ref f_Supply_at) = true)
    (a_Supply_between : PySem.W.findIn K (.ref C_Supply) "between" = some (some (.ref f_Supply_between)))
    (i_Supply_between : PySem.W.isFn K (.ref f_Supply_between) = true)
    (l_Supply_between : K.lookup f_Supply_between = some ⟨oc_Supply_between, od_Supply_between, .func (PySem.W.fnOf "between" "Supply.between" (defArgs s_Supply_between) (defBody s_Supply_between) (defScope s_Supply_between) .none kV_Supply_between dc_Supply_between pm_Supply_between an_Supply_between cd_Supply_between ct_Supply_between), sl_Supply_between⟩)
    (c_Supply_between : PySem.W.codeIn K cd_Supply_between "Supply.between" = true)
    (k_Supply_between : PySem.W.keepIn K (.ref f_Supply_between) = true)
    (a_Supply_changes : PySem.W.findIn K (.ref C_Supply) "changes" = some (some (.ref f_Supply_changes)))
    (i_Supply_changes : PySem.W.isFn K (.ref f_Supply_changes) = true)
    (l_Supply_changes : K.lookup f_Supply_changes = some ⟨oc_Supply_changes, od_Supply_changes, .func (PySem.W.fnOf "changes" "Supply.changes" (defArgs s_Supply_changes) (defBody s_Supply_changes) (defScope s_Supply_changes) .none kV_Supply_changes dc_Supply_changes pm_Supply_changes an_Supply_changes cd_Supply_changes ct_Supply_changes), sl_Supply_changes⟩)
    (c_Supply_changes : PySem.W.codeIn K cd_Supply_changes "Supply.changes" = true)
    (k_Supply_changes : PySem.W.keepIn K (.ref f_Supply_changes) = true)
    (a_Supplybefore : PySem.W.findIn K (.ref C_Supply) "_before" = some (some (.ref f_Supplybefore)))
    (i_Supplybefore : PySem.W.isFn K (.ref f_Supplybefore) = true)
    (l_Supplybefore : K.lookup f_Supplybefore = some ⟨oc_Supplybefore, od_Supplybefore, .func (PySem.W.fnOf "_before" "Supply._before" (defArgs s_Supplybefore) (defBody s_Supplybefore) (defScope s_Supplybefore) .none kV_Supplybefore dc_Supplybefore pm_Supplybefore an_Supplybefore cd_Supplybefore ct_Supplybefore), sl_Supplybefore⟩)
    (c_Supplybefore : PySem.W.codeIn K cd_Supplybefore "Supply._before" = true)
    (k_Supplybefore : PySem.W.keepIn K (.ref f_Supplybefore) = true)
    (a_kept_changes : PySem.W.nsIn K mainGlobals "kept_changes" = some (some (.ref f_kept_changes)))
    (l_kept_changes : K.lookup f_kept_changes = some ⟨oc_kept_changes, od_kept_changes, .func (PySem.W.fnOf "kept_changes" "kept_changes" (defArgs s_kept_changes) (defBody s_kept_changes) (defScope s_kept_changes) .none kV_kept_changes dc_kept_changes pm_kept_changes an_kept_changes cd_kept_changes ct_kept_changes), sl_kept_changes⟩)
    (c_kept_changes : PySem.W.codeIn K cd_kept_changes "kept_changes" = true)
    (k_kept_changes : PySem.W.keepIn K (.ref f_kept_changes) = true)
    (a_sums_to_last : PySem.W.nsIn K mainGlobals "sums_to_last" = some (some (.ref f_sums_to_last)))
    (l_sums_to_last : K.lookup f_sums_to_last = some ⟨oc_sums_to_last, od_sums_to_last, .func (PySem.W.fnOf "sums_to_last" "sums_to_last" (defArgs s_sums_to_last) (defBody s_sums_to_last) (defScope s_sums_to_last) .none kV_sums_to_last dc_sums_to_last pm_sums_to_last an_sums_to_last cd_sums_to_last ct_sums_to_last), sl_sums_to_last⟩)
    (c_sums_to_last : PySem.W.codeIn K cd_sums_to_last "sums_to_last" = true)
    (k_sums_to_last : PySem.W.keepIn K (.ref f_sums_to_last) = true)
    (a_find_wrong_change : PySem.W.nsIn K mainGlobals "find_wrong_change" = some (some (.ref f_find_wrong_change)))
    (l_find_wrong_change : K.lookup f_find_wrong_change = some ⟨oc_find_wrong_change, od_find_wrong_change, .func (PySem.W.fnOf "find_wrong_change" "find_wrong_change" (defArgs s_find_wrong_change) (defBody s_find_wrong_change) (defScope s_find_wrong_change) .none kV_find_wrong_change dc_find_wrong_change pm_find_wrong_change an_find_wrong_change cd_find_wrong_change ct_find_wrong_change), sl_find_wrong_change⟩)
    (c_find_wrong_change : PySem.W.codeIn K cd_find_wrong_change "find_wrong_change" = true)
    (k_find_wrong_change : PySem.W.keepIn K (.ref f_find_wrong_change) = true)
    (a_is_change : PySem.W.nsIn K mainGlobals "is_change" = some (some (.ref f_is_change)))
    (l_is_change : K.lookup f_is_change = some ⟨oc_is_change, od_is_change, .func (PySem.W.fnOf "is_change" "is_change" (defArgs s_is_change) (defBody s_is_change) (defScope s_is_change) .none kV_is_change dc_is_change pm_is_change an_is_change cd_is_change ct_is_change), sl_is_change⟩)
    (c_is_change : PySem.W.codeIn K cd_is_change "is_change" = true)
    (k_is_change : PySem.W.keepIn K (.ref f_is_change) = true)
    (a_l_rng : PySem.W.nsIn K mainGlobals "_law_rng" = some (some (.ref f_l_rng)))
    (l_l_rng : K.lookup f_l_rng = some ⟨oc_l_rng, od_l_rng, .func (PySem.W.fnOf "_law_rng" "_law_rng" (defArgs s_l_rng) (defBody s_l_rng) (defScope s_l_rng) .none kV_l_rng dc_l_rng pm_l_rng an_l_rng cd_l_rng ct_l_rng), sl_l_rng⟩)
    (c_l_rng : PySem.W.codeIn K cd_l_rng "_law_rng" = true)
    (k_l_rng : PySem.W.keepIn K (.ref f_l_rng) = true)
    (a_l_draw : PySem.W.nsIn K mainGlobals "_law_draw" = some (some (.ref f_l_draw)))
    (l_l_draw : K.lookup f_l_draw = some ⟨oc_l_draw, od_l_draw, .func (PySem.W.fnOf "_law_draw" "_law_draw" (defArgs s_l_draw) (defBody s_l_draw) (defScope s_l_draw) .none kV_l_draw dc_l_draw pm_l_draw an_l_draw cd_l_draw ct_l_draw), sl_l_draw⟩)
    (c_l_draw : PySem.W.codeIn K cd_l_draw "_law_draw" = true)
    (k_l_draw : PySem.W.keepIn K (.ref f_l_draw) = true)
    (a_l_choice : PySem.W.nsIn K mainGlobals "_law_choice" = some (some (.ref f_l_choice)))
    (l_l_choice : K.lookup f_l_choice = some ⟨oc_l_choice, od_l_choice, .func (PySem.W.fnOf "_law_choice" "_law_choice" (defArgs s_l_choice) (defBody s_l_choice) (defScope s_l_choice) .none kV_l_choice dc_l_choice pm_l_choice an_l_choice cd_l_choice ct_l_choice), sl_l_choice⟩)
    (c_l_choice : PySem.W.codeIn K cd_l_choice "_law_choice" = true)
    (k_l_choice : PySem.W.keepIn K (.ref f_l_choice) = true)
    (a_l_changes : PySem.W.nsIn K mainGlobals "_law_changes" = some (some (.ref f_l_changes)))
    (l_l_changes : K.lookup f_l_changes = some ⟨oc_l_changes, od_l_changes, .func (PySem.W.fnOf "_law_changes" "_law_changes" (defArgs s_l_changes) (defBody s_l_changes) (defScope s_l_changes) .none kV_l_changes dc_l_changes pm_l_changes an_l_changes cd_l_changes ct_l_changes), sl_l_changes⟩)
    (c_l_changes : PySem.W.codeIn K cd_l_changes "_law_changes" = true)
    (k_l_changes : PySem.W.keepIn K (.ref f_l_changes) = true)
    (a_l_at : PySem.W.nsIn K mainGlobals "_law_at" = some (some (.ref f_l_at)))
    (l_l_at : K.lookup f_l_at = some ⟨oc_l_at, od_l_at, .func (PySem.W.fnOf "_law_at" "_law_at" (defArgs s_l_at) (defBody s_l_at) (defScope s_l_at) .none kV_l_at dc_l_at pm_l_at an_l_at cd_l_at ct_l_at), sl_l_at⟩)
    (c_l_at : PySem.W.codeIn K cd_l_at "_law_at" = true)
    (k_l_at : PySem.W.keepIn K (.ref f_l_at) = true)
    (a_l_real : PySem.W.nsIn K mainGlobals "_law_real" = some (some (.ref f_l_real)))
    (l_l_real : K.lookup f_l_real = some ⟨oc_l_real, od_l_real, .func (PySem.W.fnOf "_law_real" "_law_real" (defArgs s_l_real) (defBody s_l_real) (defScope s_l_real) .none kV_l_real dc_l_real pm_l_real an_l_real cd_l_real ct_l_real), sl_l_real⟩)
    (c_l_real : PySem.W.codeIn K cd_l_real "_law_real" = true)
    (k_l_real : PySem.W.keepIn K (.ref f_l_real) = true)
    (a_l_ticks : PySem.W.nsIn K mainGlobals "_law_ticks" = some (some (.ref f_l_ticks)))
    (l_l_ticks : K.lookup f_l_ticks = some ⟨oc_l_ticks, od_l_ticks, .func (PySem.W.fnOf "_law_ticks" "_law_ticks" (defArgs s_l_ticks) (defBody s_l_ticks) (defScope s_l_ticks) .none kV_l_ticks dc_l_ticks pm_l_ticks an_l_ticks cd_l_ticks ct_l_ticks), sl_l_ticks⟩)
    (c_l_ticks : PySem.W.codeIn K cd_l_ticks "_law_ticks" = true)
    (k_l_ticks : PySem.W.keepIn K (.ref f_l_ticks) = true)
    (a_l_asked : PySem.W.nsIn K mainGlobals "_law_asked" = some (some (.ref f_l_asked)))
    (l_l_asked : K.lookup f_l_asked = some ⟨oc_l_asked, od_l_asked, .func (PySem.W.fnOf "_law_asked" "_law_asked" (defArgs s_l_asked) (defBody s_l_asked) (defScope s_l_asked) .none kV_l_asked dc_l_asked pm_l_asked an_l_asked cd_l_asked ct_l_asked), sl_l_asked⟩)
    (c_l_asked : PySem.W.codeIn K cd_l_asked "_law_asked" = true)
    (k_l_asked : PySem.W.keepIn K (.ref f_l_asked) = true)
    (a_l_others : PySem.W.nsIn K mainGlobals "_law_others" = some (some (.ref f_l_others)))
    (l_l_others : K.lookup f_l_others = some ⟨oc_l_others, od_l_others, .func (PySem.W.fnOf "_law_others" "_law_others" (defArgs s_l_others) (defBody s_l_others) (defScope s_l_others) .none kV_l_others dc_l_others pm_l_others an_l_others cd_l_others ct_l_others), sl_l_others⟩)
    (c_l_others : PySem.W.codeIn K cd_l_others "_law_others" = true)
    (k_l_others : PySem.W.keepIn K (.ref f_l_others) = true)
    (a_l_alike : PySem.W.nsIn K mainGlobals "_law_alike" = some (some (.ref f_l_alike)))
    (l_l_alike : K.lookup f_l_alike = some ⟨oc_l_alike, od_l_alike, .func (PySem.W.fnOf "_law_alike" "_law_alike" (defArgs s_l_alike) (defBody s_l_alike) (defScope s_l_alike) .none kV_l_alike dc_l_alike pm_l_alike an_l_alike cd_l_alike ct_l_alike), sl_l_alike⟩)
    (c_l_alike : PySem.W.codeIn K cd_l_alike "_law_alike" = true)
    (k_l_alike : PySem.W.keepIn K (.ref f_l_alike) = true)
    (a_l_equal_right : PySem.W.nsIn K mainGlobals "_law_equal_right" = some (some (.ref f_l_equal_right)))
    (l_l_equal_right : K.lookup f_l_equal_right = some ⟨oc_l_equal_right, od_l_equal_right, .func (PySem.W.fnOf "_law_equal_right" "_law_equal_right" (defArgs s_l_equal_right) (defBody s_l_equal_right) (defScope s_l_equal_right) .none kV_l_equal_right dc_l_equal_right pm_l_equal_right an_l_equal_right cd_l_equal_right ct_l_equal_right), sl_l_equal_right⟩)
    (c_l_equal_right : PySem.W.codeIn K cd_l_equal_right "_law_equal_right" = true)
    (k_l_equal_right : PySem.W.keepIn K (.ref f_l_equal_right) = true)
    (a_law : PySem.W.nsIn K mainGlobals "law" = some (some (.ref f_law)))
    (l_law : K.lookup f_law = some ⟨oc_law, od_law, .func (PySem.W.fnOf "law" "law" (defArgs s_law) (defBody s_law) (defScope s_law) .none kV_law dc_law pm_law an_law cd_law ct_law), sl_law⟩)
    (c_law : PySem.W.codeIn K cd_law "law" = true)
    (k_law : PySem.W.keepIn K (.ref f_law) = true)
    (v_MAX_CAPACITY : PySem.W.nsIn K mainGlobals "MAX_CAPACITY" = some (some (.int 20 t_MAX_CAPACITY)))
    (v_MAX_TICK : PySem.W.nsIn K mainGlobals "MAX_TICK" = some (some (.int 1000 t_MAX_TICK)))
    (z_abs : PySem.W.nsIn K mainGlobals "abs" = some none)
    (z_all : PySem.W.nsIn K mainGlobals "all" = some none)
    (z_any : PySem.W.nsIn K mainGlobals "any" = some none)
    (z_bool : PySem.W.nsIn K mainGlobals "bool" = some none)
    (z_divmod : PySem.W.nsIn K mainGlobals "divmod" = some none)
    (z_enumerate : PySem.W.nsIn K mainGlobals "enumerate" = some none)
    (z_int : PySem.W.nsIn K mainGlobals "int" = some none)
    (z_isinstance : PySem.W.nsIn K mainGlobals "isinstance" = some none)
    (z_len : PySem.W.nsIn K mainGlobals "len" = some none)
    (z_list : PySem.W.nsIn K mainGlobals "list" = some none)
    (z_max : PySem.W.nsIn K mainGlobals "max" = some none)
    (z_min : PySem.W.nsIn K mainGlobals "min" = some none)
    (z_range : PySem.W.nsIn K mainGlobals "range" = some none)
    (z_repr : PySem.W.nsIn K mainGlobals "repr" = some none)
    (z_sum : PySem.W.nsIn K mainGlobals "sum" = some none)
    (z_tuple : PySem.W.nsIn K mainGlobals "tuple" = some none)
    : ∃ fd : FuncData, (∀ (s : Shared) (v : Value), BindsTo s fd ⟨[v], []⟩ [("_law_script", v)]) ∧ ∀ base : Heap, K.In base → base.Ns mainGlobals mg → VG.FnG l.prog w K mg base CX0 10 fa fd ["_law_script"] (spL K) := by
  have e := hfa.symm.trans (PySem.W.mg_of X G a_law)
  cases e
  let A : Ad := {
    Supply := C_Supply,
    f_is_integer := f_is_integer,
    d_is_integer := PySem.W.fnOf "is_integer" "is_integer" (defArgs s_is_integer) (defBody s_is_integer) (defScope s_is_integer) .none kV_is_integer dc_is_integer pm_is_integer an_is_integer cd_is_integer ct_is_integer,
    f_is_count := f_is_count,
    d_is_count := PySem.W.fnOf "is_count" "is_count" (defArgs s_is_count) (defBody s_is_count) (defScope s_is_count) .none kV_is_count dc_is_count pm_is_count an_is_count cd_is_count ct_is_count,
    f_is_count_to := f_is_count_to,
    d_is_count_to := PySem.W.fnOf "is_count_to" "is_count_to" (defArgs s_is_count_to) (defBody s_is_count_to) (defScope s_is_count_to) .none kV_is_count_to dc_is_count_to pm_is_count_to an_is_count_to cd_is_count_to ct_is_count_to,
    f_require_count_to := f_require_count_to,
    d_require_count_to := PySem.W.fnOf "require_count_to" "require_count_to" (defArgs s_require_count_to) (defBody s_require_count_to) (defScope s_require_count_to) .none kV_require_count_to dc_require_count_to pm_require_count_to an_require_count_to cd_require_count_to ct_require_count_to,
    f_require_tick := f_require_tick,
    d_require_tick := PySem.W.fnOf "require_tick" "require_tick" (defArgs s_require_tick) (defBody s_require_tick) (defScope s_require_tick) .none kV_require_tick dc_require_tick pm_require_tick an_require_tick cd_require_tick ct_require_tick,
    f_is_window := f_is_window,
    d_is_window := PySem.W.fnOf "is_window" "is_window" (defArgs s_is_window) (defBody s_is_window) (defScope s_is_window) .none kV_is_window dc_is_window pm_is_window an_is_window cd_is_window ct_is_window,
    f_require_window := f_require_window,
    d_require_window := PySem.W.fnOf "require_window" "require_window" (defArgs s_require_window) (defBody s_require_window) (defScope s_require_window) .none kV_require_window dc_require_window pm_require_window an_require_window cd_require_window ct_require_window,
    e_Supply_init0 := e_Supply_init0,
    f_Supply_init := f_Supply_init,
    d_Supply_init := PySem.W.fnOf "__init__" "Supply.__init__" (defArgs s_Supply_init) (defBody s_Supply_init) (defScope s_Supply_init) (.ref DT_Supply_init) kV_Supply_init dc_Supply_init pm_Supply_init an_Supply_init cd_Supply_init ct_Supply_init,
    f_Supply_eq := f_Supply_eq,
    d_Supply_eq := PySem.W.fnOf "__eq__" "Supply.__eq__" (defArgs s_Supply_eq) (defBody s_Supply_eq) (defScope s_Supply_eq) .none kV_Supply_eq dc_Supply_eq pm_Supply_eq an_Supply_eq cd_Supply_eq ct_Supply_eq,
    f_Supply_at := f_Supply_at,
    d_Supply_at := PySem.W.fnOf "at" "Supply.at" (defArgs s_Supply_at) (defBody s_Supply_at) (defScope s_Supply_at) .none kV_Supply_at dc_Supply_at pm_Supply_at an_Supply_at cd_Supply_at ct_Supply_at,
    f_Supply_between := f_Supply_between,
    d_Supply_between := PySem.W.fnOf "between" "Supply.between" (defArgs s_Supply_between) (defBody s_Supply_between) (defScope s_Supply_between) .none kV_Supply_between dc_Supply_between pm_Supply_between an_Supply_between cd_Supply_between ct_Supply_between,
    f_Supply_changes := f_Supply_changes,
    d_Supply_changes := PySem.W.fnOf "changes" "Supply.changes" (defArgs s_Supply_changes) (defBody s_Supply_changes) (defScope s_Supply_changes) .none kV_Supply_changes dc_Supply_changes pm_Supply_changes an_Supply_changes cd_Supply_changes ct_Supply_changes,
    f_Supplybefore := f_Supplybefore,
    d_Supplybefore := PySem.W.fnOf "_before" "Supply._before" (defArgs s_Supplybefore) (defBody s_Supplybefore) (defScope s_Supplybefore) .none kV_Supplybefore dc_Supplybefore pm_Supplybefore an_Supplybefore cd_Supplybefore ct_Supplybefore,
    f_kept_changes := f_kept_changes,
    d_kept_changes := PySem.W.fnOf "kept_changes" "kept_changes" (defArgs s_kept_changes) (defBody s_kept_changes) (defScope s_kept_changes) .none kV_kept_changes dc_kept_changes pm_kept_changes an_kept_changes cd_kept_changes ct_kept_changes,
    f_sums_to_last := f_sums_to_last,
    d_sums_to_last := PySem.W.fnOf "sums_to_last" "sums_to_last" (defArgs s_sums_to_last) (defBody s_sums_to_last) (defScope s_sums_to_last) .none kV_sums_to_last dc_sums_to_last pm_sums_to_last an_sums_to_last cd_sums_to_last ct_sums_to_last,
    f_find_wrong_change := f_find_wrong_change,
    d_find_wrong_change := PySem.W.fnOf "find_wrong_change" "find_wrong_change" (defArgs s_find_wrong_change) (defBody s_find_wrong_change) (defScope s_find_wrong_change) .none kV_find_wrong_change dc_find_wrong_change pm_find_wrong_change an_find_wrong_change cd_find_wrong_change ct_find_wrong_change,
    f_is_change := f_is_change,
    d_is_change := PySem.W.fnOf "is_change" "is_change" (defArgs s_is_change) (defBody s_is_change) (defScope s_is_change) .none kV_is_change dc_is_change pm_is_change an_is_change cd_is_change ct_is_change,
    f_l_rng := f_l_rng,
    d_l_rng := PySem.W.fnOf "_law_rng" "_law_rng" (defArgs s_l_rng) (defBody s_l_rng) (defScope s_l_rng) .none kV_l_rng dc_l_rng pm_l_rng an_l_rng cd_l_rng ct_l_rng,
    f_l_draw := f_l_draw,
    d_l_draw := PySem.W.fnOf "_law_draw" "_law_draw" (defArgs s_l_draw) (defBody s_l_draw) (defScope s_l_draw) .none kV_l_draw dc_l_draw pm_l_draw an_l_draw cd_l_draw ct_l_draw,
    f_l_choice := f_l_choice,
    d_l_choice := PySem.W.fnOf "_law_choice" "_law_choice" (defArgs s_l_choice) (defBody s_l_choice) (defScope s_l_choice) .none kV_l_choice dc_l_choice pm_l_choice an_l_choice cd_l_choice ct_l_choice,
    f_l_changes := f_l_changes,
    d_l_changes := PySem.W.fnOf "_law_changes" "_law_changes" (defArgs s_l_changes) (defBody s_l_changes) (defScope s_l_changes) .none kV_l_changes dc_l_changes pm_l_changes an_l_changes cd_l_changes ct_l_changes,
    f_l_at := f_l_at,
    d_l_at := PySem.W.fnOf "_law_at" "_law_at" (defArgs s_l_at) (defBody s_l_at) (defScope s_l_at) .none kV_l_at dc_l_at pm_l_at an_l_at cd_l_at ct_l_at,
    f_l_real := f_l_real,
    d_l_real := PySem.W.fnOf "_law_real" "_law_real" (defArgs s_l_real) (defBody s_l_real) (defScope s_l_real) .none kV_l_real dc_l_real pm_l_real an_l_real cd_l_real ct_l_real,
    f_l_ticks := f_l_ticks,
    d_l_ticks := PySem.W.fnOf "_law_ticks" "_law_ticks" (defArgs s_l_ticks) (defBody s_l_ticks) (defScope s_l_ticks) .none kV_l_ticks dc_l_ticks pm_l_ticks an_l_ticks cd_l_ticks ct_l_ticks,
    f_l_asked := f_l_asked,
    d_l_asked := PySem.W.fnOf "_law_asked" "_law_asked" (defArgs s_l_asked) (defBody s_l_asked) (defScope s_l_asked) .none kV_l_asked dc_l_asked pm_l_asked an_l_asked cd_l_asked ct_l_asked,
    f_l_others := f_l_others,
    d_l_others := PySem.W.fnOf "_law_others" "_law_others" (defArgs s_l_others) (defBody s_l_others) (defScope s_l_others) .none kV_l_others dc_l_others pm_l_others an_l_others cd_l_others ct_l_others,
    f_l_alike := f_l_alike,
    d_l_alike := PySem.W.fnOf "_law_alike" "_law_alike" (defArgs s_l_alike) (defBody s_l_alike) (defScope s_l_alike) .none kV_l_alike dc_l_alike pm_l_alike an_l_alike cd_l_alike ct_l_alike,
    f_l_equal_right := f_l_equal_right,
    d_l_equal_right := PySem.W.fnOf "_law_equal_right" "_law_equal_right" (defArgs s_l_equal_right) (defBody s_l_equal_right) (defScope s_l_equal_right) .none kV_l_equal_right dc_l_equal_right pm_l_equal_right an_l_equal_right cd_l_equal_right ct_l_equal_right,
    f_law := fa,
    d_law := PySem.W.fnOf "law" "law" (defArgs s_law) (defBody s_law) (defScope s_law) .none kV_law dc_law pm_law an_law cd_law ct_law,
    t_MAX_CAPACITY := t_MAX_CAPACITY,
    t_MAX_TICK := t_MAX_TICK }
  have T : Txt K mg A := {
    m_Supply := PySem.W.mg_of X G g_Supply,
    clSupply := ⟨pg_Supply, hd_Supply, po_Supply, sa_Supply⟩,
    M_Supply := ⟨mk_Supply, a_Supply_init, i_Supply_init, kc_Supply⟩,
    ic_Supply := ⟨ic_Supply, it_Supply, ig_Supply, i_gn, i_tk, io_Supply, ie_Supply⟩,
    n_first := n_Supply_first,
    n_changes := n_Supply_changes,
    n_sums := n_Supply_sums,
    n_last := n_Supply_last,
    F_is_integer := fun_mk (st := s_is_integer) l_is_integer c_is_integer k_is_integer,
    m_is_integer := PySem.W.mg_of X G a_is_integer,
    k_is_integer := k_is_integer,
    b_is_integer := ((fun_mk (st := s_is_integer) l_is_integer c_is_integer k_is_integer).binds (ps := ["value"]) fun _ _ _ _ _ _ us hl => match us, hl with | [_], _ => rfl),
    F_is_count := fun_mk (st := s_is_count) l_is_count c_is_count k_is_count,
    m_is_count := PySem.W.mg_of X G a_is_count,
    k_is_count := k_is_count,
    b_is_count := ((fun_mk (st := s_is_count) l_is_count c_is_count k_is_count).binds (ps := ["value"]) fun _ _ _ _ _ _ us hl => match us, hl with | [_], _ => rfl),
    F_is_count_to := fun_mk (st := s_is_count_to) l_is_count_to c_is_count_to k_is_count_to,
    m_is_count_to := PySem.W.mg_of X G a_is_count_to,
    k_is_count_to := k_is_count_to,
    b_is_count_to := ((fun_mk (st := s_is_count_to) l_is_count_to c_is_count_to k_is_count_to).binds (ps := ["value", "most"]) fun _ _ _ _ _ _ us hl => match us, hl with | [_, _], _ => rfl),
    F_require_count_to := fun_mk (st := s_require_count_to) l_require_count_to c_require_count_to k_require_count_to,
    m_require_count_to := PySem.W.mg_of X G a_require_count_to,
    k_require_count_to := k_require_count_to,
    b_require_count_to := ((fun_mk (st := s_require_count_to) l_require_count_to c_require_count_to k_require_count_to).binds (ps := ["value", "most"]) fun _ _ _ _ _ _ us hl => match us, hl with | [_, _], _ => rfl),
    F_require_tick := fun_mk (st := s_require_tick) l_require_tick c_require_tick k_require_tick,
    m_require_tick := PySem.W.mg_of X G a_require_tick,
    k_require_tick := k_require_tick,
    b_require_tick := ((fun_mk (st := s_require_tick) l_require_tick c_require_tick k_require_tick).binds (ps := ["value"]) fun _ _ _ _ _ _ us hl => match us, hl with | [_], _ => rfl),
    F_is_window := fun_mk (st := s_is_window) l_is_window c_is_window k_is_window,
    m_is_window := PySem.W.mg_of X G a_is_window,
    k_is_window := k_is_window,
    b_is_window := ((fun_mk (st := s_is_window) l_is_window c_is_window k_is_window).binds (ps := ["start", "end"]) fun _ _ _ _ _ _ us hl => match us, hl with | [_, _], _ => rfl),
    F_require_window := fun_mk (st := s_require_window) l_require_window c_require_window k_require_window,
    m_require_window := PySem.W.mg_of X G a_require_window,
    k_require_window := k_require_window,
    b_require_window := ((fun_mk (st := s_require_window) l_require_window c_require_window k_require_window).binds (ps := ["start", "end"]) fun _ _ _ _ _ _ us hl => match us, hl with | [_, _], _ => rfl),
    e_Supply_init0_ := fun H => .inr ⟨_, _, _, le_Supply_init0, rfl, rfl, (by rw [sizeLine_eq]; show 0 ≤ _; decide), .nil⟩,
    F_Supply_init := ⟨⟨_, _, _, _, _, _, _, _, _, _, rfl, l_Supply_init, c_Supply_init, .inr ⟨by simp, DT_Supply_init, _, _, _, rfl, ld_Supply_init, rfl, (.cons rfl .nil)⟩, .inl rfl⟩, k_Supply_init⟩,
    F_Supply_eq := fun_mk (st := s_Supply_eq) l_Supply_eq c_Supply_eq k_Supply_eq,
    b_Supply_eq := ((fun_mk (st := s_Supply_eq) l_Supply_eq c_Supply_eq k_Supply_eq).binds (ps := ["self", "other"]) fun _ _ _ _ _ _ us hl => match us, hl with | [_, _], _ => rfl),
    me___eq__ := ⟨a_Supply_eq, i_Supply_eq, k_Supply_eq⟩,
    F_Supply_at := fun_mk (st := s_Supply_at) l_Supply_at c_Supply_at k_Supply_at,
    b_Supply_at := ((fun_mk (st := s_Supply_at) l_Supply_at c_Supply_at k_Supply_at).binds (ps := ["self", "tick"]) fun _ _ _ _ _ _ us hl => match us, hl with | [_, _], _ => rfl),
    me_at := ⟨a_Supply_at, i_Supply_at, k_Supply_at⟩,
    F_Supply_between := fun_mk (st := s_Supply_between) l_Supply_between c_Supply_between k_Supply_between,
    b_Supply_between := ((fun_mk (st := s_Supply_between) l_Supply_between c_Supply_between k_Supply_between).binds (ps := ["self", "start", "end"]) fun _ _ _ _ _ _ us hl => match us, hl with | [_, _, _], _ => rfl),
    me_between := ⟨a_Supply_between, i_Supply_between, k_Supply_between⟩,
    F_Supply_changes := fun_mk (st := s_Supply_changes) l_Supply_changes c_Supply_changes k_Supply_changes,
    b_Supply_changes := ((fun_mk (st := s_Supply_changes) l_Supply_changes c_Supply_changes k_Supply_changes).binds (ps := ["self"]) fun _ _ _ _ _ _ us hl => match us, hl with | [_], _ => rfl),
    me_changes := ⟨a_Supply_changes, i_Supply_changes, k_Supply_changes⟩,
    F_Supplybefore := fun_mk (st := s_Supplybefore) l_Supplybefore c_Supplybefore k_Supplybefore,
    b_Supplybefore := ((fun_mk (st := s_Supplybefore) l_Supplybefore c_Supplybefore k_Supplybefore).binds (ps := ["self", "tick"]) fun _ _ _ _ _ _ us hl => match us, hl with | [_, _], _ => rfl),
    me__before := ⟨a_Supplybefore, i_Supplybefore, k_Supplybefore⟩,
    F_kept_changes := fun_mk (st := s_kept_changes) l_kept_changes c_kept_changes k_kept_changes,
    m_kept_changes := PySem.W.mg_of X G a_kept_changes,
    k_kept_changes := k_kept_changes,
    b_kept_changes := ((fun_mk (st := s_kept_changes) l_kept_changes c_kept_changes k_kept_changes).binds (ps := ["capacity", "changes"]) fun _ _ _ _ _ _ us hl => match us, hl with | [_, _], _ => rfl),
    F_sums_to_last := fun_mk (st := s_sums_to_last) l_sums_to_last c_sums_to_last k_sums_to_last,
    m_sums_to_last := PySem.W.mg_of X G a_sums_to_last,
    k_sums_to_last := k_sums_to_last,
    b_sums_to_last := ((fun_mk (st := s_sums_to_last) l_sums_to_last c_sums_to_last k_sums_to_last).binds (ps := ["capacity", "changes"]) fun _ _ _ _ _ _ us hl => match us, hl with | [_, _], _ => rfl),
    F_find_wrong_change := fun_mk (st := s_find_wrong_change) l_find_wrong_change c_find_wrong_change k_find_wrong_change,
    m_find_wrong_change := PySem.W.mg_of X G a_find_wrong_change,
    k_find_wrong_change := k_find_wrong_change,
    b_find_wrong_change := ((fun_mk (st := s_find_wrong_change) l_find_wrong_change c_find_wrong_change k_find_wrong_change).binds (ps := ["changes"]) fun _ _ _ _ _ _ us hl => match us, hl with | [_], _ => rfl),
    F_is_change := fun_mk (st := s_is_change) l_is_change c_is_change k_is_change,
    m_is_change := PySem.W.mg_of X G a_is_change,
    k_is_change := k_is_change,
    b_is_change := ((fun_mk (st := s_is_change) l_is_change c_is_change k_is_change).binds (ps := ["value"]) fun _ _ _ _ _ _ us hl => match us, hl with | [_], _ => rfl),
    F_l_rng := fun_mk (st := s_l_rng) l_l_rng c_l_rng k_l_rng,
    m_l_rng := PySem.W.mg_of X G a_l_rng,
    k_l_rng := k_l_rng,
    b_l_rng := ((fun_mk (st := s_l_rng) l_l_rng c_l_rng k_l_rng).binds (ps := ["_law_script", "_law_k"]) fun _ _ _ _ _ _ us hl => match us, hl with | [_, _], _ => rfl),
    F_l_draw := fun_mk (st := s_l_draw) l_l_draw c_l_draw k_l_draw,
    m_l_draw := PySem.W.mg_of X G a_l_draw,
    k_l_draw := k_l_draw,
    b_l_draw := ((fun_mk (st := s_l_draw) l_l_draw c_l_draw k_l_draw).binds (ps := ["_law_rng_here", "_law_many"]) fun _ _ _ _ _ _ us hl => match us, hl with | [_, _], _ => rfl),
    F_l_choice := fun_mk (st := s_l_choice) l_l_choice c_l_choice k_l_choice,
    m_l_choice := PySem.W.mg_of X G a_l_choice,
    k_l_choice := k_l_choice,
    b_l_choice := ((fun_mk (st := s_l_choice) l_l_choice c_l_choice k_l_choice).binds (ps := ["_law_rng_here", "_law_some"]) fun _ _ _ _ _ _ us hl => match us, hl with | [_, _], _ => rfl),
    F_l_changes := fun_mk (st := s_l_changes) l_l_changes c_l_changes k_l_changes,
    m_l_changes := PySem.W.mg_of X G a_l_changes,
    k_l_changes := k_l_changes,
    b_l_changes := ((fun_mk (st := s_l_changes) l_l_changes c_l_changes k_l_changes).binds (ps := ["_law_rng_here", "_law_many"]) fun _ _ _ _ _ _ us hl => match us, hl with | [_, _], _ => rfl),
    F_l_at := fun_mk (st := s_l_at) l_l_at c_l_at k_l_at,
    m_l_at := PySem.W.mg_of X G a_l_at,
    k_l_at := k_l_at,
    b_l_at := ((fun_mk (st := s_l_at) l_l_at c_l_at k_l_at).binds (ps := ["_law_many", "_law_steps", "_law_now"]) fun _ _ _ _ _ _ us hl => match us, hl with | [_, _, _], _ => rfl),
    F_l_real := fun_mk (st := s_l_real) l_l_real c_l_real k_l_real,
    m_l_real := PySem.W.mg_of X G a_l_real,
    k_l_real := k_l_real,
    b_l_real := ((fun_mk (st := s_l_real) l_l_real c_l_real k_l_real).binds (ps := ["_law_many", "_law_steps"]) fun _ _ _ _ _ _ us hl => match us, hl with | [_, _], _ => rfl),
    F_l_ticks := fun_mk (st := s_l_ticks) l_l_ticks c_l_ticks k_l_ticks,
    m_l_ticks := PySem.W.mg_of X G a_l_ticks,
    k_l_ticks := k_l_ticks,
    b_l_ticks := ((fun_mk (st := s_l_ticks) l_l_ticks c_l_ticks k_l_ticks).binds (ps := ["_law_rng_here", "_law_steps"]) fun _ _ _ _ _ _ us hl => match us, hl with | [_, _], _ => rfl),
    F_l_asked := fun_mk (st := s_l_asked) l_l_asked c_l_asked k_l_asked,
    m_l_asked := PySem.W.mg_of X G a_l_asked,
    k_l_asked := k_l_asked,
    b_l_asked := ((fun_mk (st := s_l_asked) l_l_asked c_l_asked k_l_asked).binds (ps := ["_law_rng_here", "_law_supply", "_law_many", "_law_steps"]) fun _ _ _ _ _ _ us hl => match us, hl with | [_, _, _, _], _ => rfl),
    F_l_others := fun_mk (st := s_l_others) l_l_others c_l_others k_l_others,
    m_l_others := PySem.W.mg_of X G a_l_others,
    k_l_others := k_l_others,
    b_l_others := ((fun_mk (st := s_l_others) l_l_others c_l_others k_l_others).binds (ps := ["_law_rng_here", "_law_many", "_law_steps"]) fun _ _ _ _ _ _ us hl => match us, hl with | [_, _, _], _ => rfl),
    F_l_alike := fun_mk (st := s_l_alike) l_l_alike c_l_alike k_l_alike,
    m_l_alike := PySem.W.mg_of X G a_l_alike,
    k_l_alike := k_l_alike,
    b_l_alike := ((fun_mk (st := s_l_alike) l_l_alike c_l_alike k_l_alike).binds (ps := ["_law_one", "_law_other"]) fun _ _ _ _ _ _ us hl => match us, hl with | [_, _], _ => rfl),
    F_l_equal_right := fun_mk (st := s_l_equal_right) l_l_equal_right c_l_equal_right k_l_equal_right,
    m_l_equal_right := PySem.W.mg_of X G a_l_equal_right,
    k_l_equal_right := k_l_equal_right,
    b_l_equal_right := ((fun_mk (st := s_l_equal_right) l_l_equal_right c_l_equal_right k_l_equal_right).binds (ps := ["_law_rng_here", "_law_supply", "_law_many", "_law_steps"]) fun _ _ _ _ _ _ us hl => match us, hl with | [_, _, _, _], _ => rfl),
    F_law := fun_mk (st := s_law) l_law c_law k_law,
    m_law := PySem.W.mg_of X G a_law,
    k_law := k_law,
    b_law := ((fun_mk (st := s_law) l_law c_law k_law).binds (ps := ["_law_script"]) fun _ _ _ _ _ _ us hl => match us, hl with | [_], _ => rfl),
    v_MAX_CAPACITY := PySem.W.mg_of X G v_MAX_CAPACITY,
    v_MAX_TICK := PySem.W.mg_of X G v_MAX_TICK,
    abs := PySem.W.mg_none_of X G z_abs,
    all := PySem.W.mg_none_of X G z_all,
    any := PySem.W.mg_none_of X G z_any,
    bool := PySem.W.mg_none_of X G z_bool,
    divmod := PySem.W.mg_none_of X G z_divmod,
    enumerate := PySem.W.mg_none_of X G z_enumerate,
    int := PySem.W.mg_none_of X G z_int,
    isinstance := PySem.W.mg_none_of X G z_isinstance,
    len := PySem.W.mg_none_of X G z_len,
    list := PySem.W.mg_none_of X G z_list,
    max := PySem.W.mg_none_of X G z_max,
    min := PySem.W.mg_none_of X G z_min,
    range := PySem.W.mg_none_of X G z_range,
    repr := PySem.W.mg_none_of X G z_repr,
    sum := PySem.W.mg_none_of X G z_sum,
    tuple := PySem.W.mg_none_of X G z_tuple }
  exact ⟨_, fun s v => .of_eq rfl, fun base _ _ => ok_law (P := l.prog) (w := w) (base := base) T⟩
end VK

open PySem PySem.W PyProof.Rows in
set_option maxRecDepth 100000 in
set_option maxHeartbeats 0 in
theorem PySem.Challenge.cw_dueways_k38_supplies_tick_by_tick_holds : PySem.Challenge.rw_dueways_k38_supplies_tick_by_tick.Holds := by
  w_on; o_law; k_head; (case hw => w_witness2)
  k_fill
  refine VG.walkG (n := 63) (k := 10) (x := "_law_script") (CX := fun _ => L2.CX0) (sp := fun w => VK.spL _) rfl (by decide) rfl ⟨rfl, by decide, by decide⟩ (fun w h Y => PySem.W.kIn_of Y) ?F (fun _ _ a ns hl _ hS => ⟨a, ns, rfl, hS, hl, fun _ => rfl⟩) fun _ _ _ _ _ z => z
  case F =>
    intro w mg fa h KX G hmg
    refine' VK.all_mk KX G hmg ?g_Supply ?pg_Supply ?hd_Supply ?po_Supply ?sa_Supply ?mk_Supply ?kc_Supply ?ic_Supply ?it_Supply ?ig_Supply ?io_Supply ?ie_Supply ?i_gn ?i_tk ?n_Supply_first ?n_Supply_changes ?n_Supply_sums ?n_Supply_last ?a_is_integer ?l_is_integer ?c_is_integer ?k_is_integer ?a_is_count ?l_is_count ?c_is_count ?k_is_count ?a_is_count_to ?l_is_count_to ?c_is_count_to ?k_is_count_to ?a_require_count_to ?l_require_count_to ?c_require_count_to ?k_require_count_to ?a_require_tick ?l_require_tick ?c_require_tick ?k_require_tick ?a_is_window ?l_is_window ?c_is_window ?k_is_window ?a_require_window ?l_require_window ?c_require_window ?k_require_window ?a_Supply_init ?i_Supply_init ?l_Supply_init ?c_Supply_init ?ld_Supply_init ?le_Supply_init0 ?k_Supply_init ?a_Supply_eq ?i_Supply_eq ?l_Supply_eq ?c_Supply_eq ?k_Supply_eq ?a_Supply_at ?i_Supply_at ?l_Supply_at ?c_Supply_at ?k_Supply_at ?a_Supply_between ?i_Supply_between ?l_Supply_between ?c_Supply_between ?k_Supply_between ?a_Supply_changes ?i_Supply_changes ?l_Supply_changes ?c_Supply_changes ?k_Supply_changes ?a_Supplybefore ?i_Supplybefore ?l_Supplybefore ?c_Supplybefore ?k_Supplybefore ?a_kept_changes ?l_kept_changes ?c_kept_changes ?k_kept_changes ?a_sums_to_last ?l_sums_to_last ?c_sums_to_last ?k_sums_to_last ?a_find_wrong_change ?l_find_wrong_change ?c_find_wrong_change ?k_find_wrong_change ?a_is_change ?l_is_change ?c_is_change ?k_is_change ?a_l_rng ?l_l_rng ?c_l_rng ?k_l_rng ?a_l_draw ?l_l_draw ?c_l_draw ?k_l_draw ?a_l_choice ?l_l_choice ?c_l_choice ?k_l_choice ?a_l_changes ?l_l_changes ?c_l_changes ?k_l_changes ?a_l_at ?l_l_at ?c_l_at ?k_l_at ?a_l_real ?l_l_real ?c_l_real ?k_l_real ?a_l_ticks ?l_l_ticks ?c_l_ticks ?k_l_ticks ?a_l_asked ?l_l_asked ?c_l_asked ?k_l_asked ?a_l_others ?l_l_others ?c_l_others ?k_l_others ?a_l_alike ?l_l_alike ?c_l_alike ?k_l_alike ?a_l_equal_right ?l_l_equal_right ?c_l_equal_right ?k_l_equal_right ?a_law ?l_law ?c_law ?k_law ?v_MAX_CAPACITY ?v_MAX_TICK ?z_abs ?z_all ?z_any ?z_bool ?z_divmod ?z_enumerate ?z_int ?z_isinstance ?z_len ?z_list ?z_max ?z_min ?z_range ?z_repr ?z_sum ?z_tuple
    (case g_Supply => k_is)
    (case pg_Supply => k_is)
    (case hd_Supply => k_is)
    (case po_Supply => k_is)
    (case sa_Supply => k_is)
    (case mk_Supply => k_is)
    (case kc_Supply => k_is)
    (case ic_Supply => k_is)
    (case it_Supply => k_is)
    (case ig_Supply => k_is)
    (case io_Supply => k_is)
    (case ie_Supply => k_is)
    (case i_gn => k_is)
    (case i_tk => k_is)
    (case n_Supply_first => k_is)
    (case n_Supply_changes => k_is)
    (case n_Supply_sums => k_is)
    (case n_Supply_last => k_is)
    (case a_is_integer => k_is)
    (case l_is_integer => k_is)
    (case c_is_integer => k_is)
    (case k_is_integer => k_is)
    (case a_is_count => k_is)
    (case l_is_count => k_is)
    (case c_is_count => k_is)
    (case k_is_count => k_is)
    (case a_is_count_to => k_is)
    (case l_is_count_to => k_is)
    (case c_is_count_to => k_is)
    (case k_is_count_to => k_is)
    (case a_require_count_to => k_is)
    (case l_require_count_to => k_is)
    (case c_require_count_to => k_is)
    (case k_require_count_to => k_is)
    (case a_require_tick => k_is)
    (case l_require_tick => k_is)
    (case c_require_tick => k_is)
    (case k_require_tick => k_is)
    (case a_is_window => k_is)
    (case l_is_window => k_is)
    (case c_is_window => k_is)
    (case k_is_window => k_is)
    (case a_require_window => k_is)
    (case l_require_window => k_is)
    (case c_require_window => k_is)
    (case k_require_window => k_is)
    (case a_Supply_init => k_is)
    (case i_Supply_init => k_is)
    (case l_Supply_init => k_is)
    (case c_Supply_init => k_is)
    (case ld_Supply_init => k_is)
    (case le_Supply_init0 => k_is)
    (case k_Supply_init => k_is)
    (case a_Supply_eq => k_is)
    (case i_Supply_eq => k_is)
    (case l_Supply_eq => k_is)
    (case c_Supply_eq => k_is)
    (case k_Supply_eq => k_is)
    (case a_Supply_at => k_is)
    (case i_Supply_at => k_is)
    (case l_Supply_at => k_is)
    (case c_Supply_at => k_is)
    (case k_Supply_at => k_is)
    (case a_Supply_between => k_is)
    (case i_Supply_between => k_is)
    (case l_Supply_between => k_is)
    (case c_Supply_between => k_is)
    (case k_Supply_between => k_is)
    (case a_Supply_changes => k_is)
    (case i_Supply_changes => k_is)
    (case l_Supply_changes => k_is)
    (case c_Supply_changes => k_is)
    (case k_Supply_changes => k_is)
    (case a_Supplybefore => k_is)
    (case i_Supplybefore => k_is)
    (case l_Supplybefore => k_is)
    (case c_Supplybefore => k_is)
    (case k_Supplybefore => k_is)
    (case a_kept_changes => k_is)
    (case l_kept_changes => k_is)
    (case c_kept_changes => k_is)
    (case k_kept_changes => k_is)
    (case a_sums_to_last => k_is)
    (case l_sums_to_last => k_is)
    (case c_sums_to_last => k_is)
    (case k_sums_to_last => k_is)
    (case a_find_wrong_change => k_is)
    (case l_find_wrong_change => k_is)
    (case c_find_wrong_change => k_is)
    (case k_find_wrong_change => k_is)
    (case a_is_change => k_is)
    (case l_is_change => k_is)
    (case c_is_change => k_is)
    (case k_is_change => k_is)
    (case a_l_rng => k_is)
    (case l_l_rng => k_is)
    (case c_l_rng => k_is)
    (case k_l_rng => k_is)
    (case a_l_draw => k_is)
    (case l_l_draw => k_is)
    (case c_l_draw => k_is)
    (case k_l_draw => k_is)
    (case a_l_choice => k_is)
    (case l_l_choice => k_is)
    (case c_l_choice => k_is)
    (case k_l_choice => k_is)
    (case a_l_changes => k_is)
    (case l_l_changes => k_is)
    (case c_l_changes => k_is)
    (case k_l_changes => k_is)
    (case a_l_at => k_is)
    (case l_l_at => k_is)
    (case c_l_at => k_is)
    (case k_l_at => k_is)
    (case a_l_real => k_is)
    (case l_l_real => k_is)
    (case c_l_real => k_is)
    (case k_l_real => k_is)
    (case a_l_ticks => k_is)
    (case l_l_ticks => k_is)
    (case c_l_ticks => k_is)
    (case k_l_ticks => k_is)
    (case a_l_asked => k_is)
    (case l_l_asked => k_is)
    (case c_l_asked => k_is)
    (case k_l_asked => k_is)
    (case a_l_others => k_is)
    (case l_l_others => k_is)
    (case c_l_others => k_is)
    (case k_l_others => k_is)
    (case a_l_alike => k_is)
    (case l_l_alike => k_is)
    (case c_l_alike => k_is)
    (case k_l_alike => k_is)
    (case a_l_equal_right => k_is)
    (case l_l_equal_right => k_is)
    (case c_l_equal_right => k_is)
    (case k_l_equal_right => k_is)
    (case a_law => k_is)
    (case l_law => k_is)
    (case c_law => k_is)
    (case k_law => k_is)
    (case v_MAX_CAPACITY => k_is)
    (case v_MAX_TICK => k_is)
    (case z_abs => k_is)
    (case z_all => k_is)
    (case z_any => k_is)
    (case z_bool => k_is)
    (case z_divmod => k_is)
    (case z_enumerate => k_is)
    (case z_int => k_is)
    (case z_isinstance => k_is)
    (case z_len => k_is)
    (case z_list => k_is)
    (case z_max => k_is)
    (case z_min => k_is)
    (case z_range => k_is)
    (case z_repr => k_is)
    (case z_sum => k_is)
    (case z_tuple => k_is)


