import PyProof.Rows.All
import Wide.All
import OpenK.AllK
import Wide.FinOn
import KE.OsRunLaw
import PyProof.ReprRoads
import HandS.Base
import HandS.Call
import HandS.List
import HandS.Comp
import HandS.Ends
import HandS.Words
import HandS.WordsList
import HandS.Defaults
import PyProof.ReprLen
import HandS.Iter
import HandS.Walk
import KE.GoesEnumKw
import KE.GoesRev
import HandS.MakeKwOnly
import HandS.Property
import KE.KExcInit
import KE.KExcIs
import HandS.Exc
import HandS.ExcInit
import HandS.ExcField
import HandS.ExcIs
import HandS.IsInst
import HandS.WordsExc
import HandS.ExcOwn
import HandS.Dict
import PyProof.TwoTypes
import PyProof.NeKinds
import PyProof.FactsAll.bool
import PyProof.FactsAll.int
import PyProof.FactsAll.subtypes_1
import HandS.ForMost
import HandS.Conv
import HandS.Style
import HandS.Deep
import HandS.TupLe
import HandS.NoneIn
import HandS.TryOnly
import HandS.FStr
import HandS.More
import HandS.Flow
import HandS.Gcd
import HandS.DeepEq
import PySem.Challenge.RW_dueways_k28_refused_in_stage_two
set_option Elab.async false
set_option linter.all false
set_option maxRecDepth 100000
set_option maxHeartbeats 4000000
namespace VHd
open PySem PySem.W PySem.Calls PyProof.Rows HeadRun
theorem pair {α β δ : Type} {W : Option δ} {a : δ → α} {b : δ → β} {A : α} {B : β} (h1 : W.map a = some A) (h2 : W.map b = some B) : W.map (fun x => (a x, b x)) = some (A, B) := by
  cases W with
  | none => cases h1
  | some x =>
    have e1 : a x = A := Option.some.inj h1
    have e2 : b x = B := Option.some.inj h2
    show some (a x, b x) = some (A, B)
    rw [e1, e2]
theorem triple {α β γ δ : Type} {W : Option δ} {a : δ → α} {b : δ → β} {c : δ → γ} {A : α} {B : β} {C : γ} (h1 : W.map a = some A) (h2 : W.map b = some B) (h3 : W.map c = some C) : W.map (fun x => (a x, b x, c x)) = some (A, B, C) := pair h1 (pair h2 h3)
abbrev R : OpenRow := OpenLaw.row PySem.Challenge.rw_dueways_k28_refused_in_stage_two
/-- the statements that the walk sees -/
def q : Program := view R.prog [0, 1, 3, 4, 5, 6, 7, 8, 9, 10, 12, 13, 14, 15, 16, 17, 19, 20, 21, 23, 24, 25, 26, 27, 28, 29, 30, 31, 32, 34, 35, 36, 37, 38, 39, 40, 41, 42, 43, 44, 46, 48, 49, 50, 51, 52, 53, 54, 55, 56, 57, 58, 59, 60, 61]
def lo : List PySem.Str := [PySem.Str.ofString "Curve", PySem.Str.ofString "Police"]
noncomputable abbrev run (w : World) := wholeF (fun p => stepQ (denQ tabQ) p w) fenceQ 10618 R.prog
noncomputable abbrev mods : List PySem.Str := importedModules R.prog.main.body
noncomputable abbrev Xt : Shared → Bool := fun s => xlAt q [] s && recOk (RowW.records (OpenRow.toRowW R)) s
noncomputable abbrev sn (s : Shared) := seenQ q lo mods Xt s
noncomputable def sn0 (s : Shared) := PySem.W.Fast.tw5160383126252970620 (PySem.W.R.mapR (fun x => x.name) (PySem.W.Fast.tw3399658132070893891 q)) (PySem.W.Fast.tw5991557255702980513 q) [] { heap := s.heap, drawn := s.drawn, toks := s.toks, os := s.os }
noncomputable def sn1 (s : Shared) := (s.heap.bltView, (PySem.W.Fast.tw10880121769531294198 s.heap (PySem.W.Fast.tw821141287760084731 q lo) (PySem.W.R.mapR (fun x => x.name) (PySem.W.Fast.tw3399658132070893891 q)) (PySem.W.R.mapR (fun x => x.fst) (PySem.W.Fast.tw7409074990110511671 q)) (PySem.W.R.mapR (fun x => x.name) (PySem.W.Fast.tw13664370479719496447 q (PySem.W.Fast.tw821141287760084731 q lo))) && PySem.W.Fast.tw14722251495701143533 s.heap mods && s.heap.isNs PySem.mainGlobals && s.heap.isNs PySem.builtinsNs && PySem.W.Fast.tw10994771534591457954 q s.heap && Xt s && if true = true then s.gens.size == 0 else !PySem.leftWithCleanup s.gens), PySem.W.Fast.tw479339242167458305 q s)
noncomputable def sn2 (s : Shared) := (PySem.W.Fast.tw16090120013241838585 q (PySem.W.Fast.tw3247288618530077131 q) s, PySem.W.Fast.tw2386780881361962483 q (PySem.W.Fast.tw821141287760084731 q lo) s, PySem.W.Fast.tw11698064438423848299 q lo s, PySem.W.Fast.tw7317090234206586261 q s, PySem.W.Fast.tw7369524293546568484 q lo s)
set_option maxHeartbeats 0 in
theorem t1 (w : World) : (run w).map (fun x => looksF R.prog x.1.heap x.2.abs) = some true := by kernel_rfl
set_option maxHeartbeats 0 in
theorem t20 (w : World) : (run w).map (fun x => sn0 x.2.abs) = some (expectedOf q) := by kernel_rfl
set_option maxHeartbeats 0 in
theorem t21 (w : World) : (run w).map (fun x => sn1 x.2.abs) = some (bltViewBooted, true, true) := by kernel_rfl
set_option maxHeartbeats 0 in
theorem t22 (w : World) : (run w).map (fun x => sn2 x.2.abs) = some (pinGoodD (drecsOf q), plainGoodE q (looseW q lo), plainGoodD q lo, wideGood q, clsGoodW q lo) := by kernel_rfl
theorem tie {δ α β β' γ ε : Type} (a : δ → α) (b : δ → β × β' × γ) (c : δ → ε) (A : α) (B : β) (B' : β') (G : γ) (E : ε) (W : Option δ) (h1 : W.map a = some A) (h2 : W.map b = some (B, B', G)) (h3 : W.map c = some E) :
    W.map (fun x => (a x, (b x).1, (b x).2.1, (b x).2.2, c x)) = some (A, B, B', G, E) := by
  cases W with
  | none => cases h1
  | some x =>
    have e1 : a x = A := Option.some.inj h1
    have e2 : b x = (B, B', G) := Option.some.inj h2
    have e3 : c x = E := Option.some.inj h3
    show some (a x, (b x).1, (b x).2.1, (b x).2.2, c x) = some (A, B, B', G, E)
    rw [e1, e2, e3]
set_option maxHeartbeats 0 in
theorem t2 (w : World) : (run w).map (fun x => sn x.2.abs) = some (openGood q lo) := by
  have h := tie (fun x : Shared × SharedT => sn0 x.2.abs) (fun x => sn1 x.2.abs) (fun x => sn2 x.2.abs) (expectedOf q) bltViewBooted true true (pinGoodD (drecsOf q), plainGoodE q (looseW q lo), plainGoodD q lo, wideGood q, clsGoodW q lo) (run w) (t20 w) (t21 w) (t22 w)
  have e : ∀ s, (sn0 s, (sn1 s).1, (sn1 s).2.1, (sn1 s).2.2, sn2 s) = sn s := fun _ => rfl
  have g : openGood q lo = (expectedOf q, bltViewBooted, true, true, pinGoodD (drecsOf q), plainGoodE q (looseW q lo), plainGoodD q lo, wideGood q, clsGoodW q lo) := rfl
  rw [g]
  simp only [e] at h
  exact h
local macro_rules | `(tactic| kernel_rfl) => `(tactic| first | (refine VHd.triple ?_ ?_ ?_; (refine Eq.trans ?_ (VHd.t1 ‹PySem.World›)); kernel_rfl!; (refine Eq.trans ?_ ((VHd.t2 ‹PySem.World›).trans ?_)); kernel_rfl!; kernel_rfl!; kernel_rfl!) | kernel_rfl!)
local macro_rules | `(tactic| k_head) => `(tactic| k_headL)
set_option maxHeartbeats 0 in
open_top hd for PySem.Challenge.rw_dueways_k28_refused_in_stage_two
end VHd

/-! A def's promise where no repr runs around it (guards are known to be empty), so that repr of data may be asked inside. -/
namespace VG
open PySem PySem.Spec PyProof.Rows L2

/-- repr of data -/
def rRepr (K : PySem.W.Frag) : List V → Hp → VK → Prop := fun xs H Q =>
  ∃ v d, xs = [v] ∧ Dp K H v d ∧ d.showable = true ∧ d.depth ≤ 60 ∧ d.shown.length ≤ sizeLine ∧ Q (.str d.shown) H

theorem dp_noDict (K : PySem.W.Frag) (H : Hp) : (∀ d v, Dp K H v d → d.hasDict = false) ∧ (∀ ds vs, DpAll K H vs ds → PyData.hasDictAll ds = false) := by
  have one : ∀ n, (∀ d v, sizeOf d < n → Dp K H v d → d.hasDict = false) ∧
      (∀ ds vs, sizeOf ds < n → DpAll K H vs ds → PyData.hasDictAll ds = false) := by
    intro n
    induction n with
    | zero => exact ⟨fun _ _ h => absurd h (Nat.not_lt_zero _), fun _ _ h => absurd h (Nat.not_lt_zero _)⟩
    | succ n ih =>
      refine ⟨fun d v hz h => ?_, fun ds vs hz h => ?_⟩
      · cases h with
        | non => rfl
        | bl => rfl
        | int => rfl
        | str => rfl
        | lst _ ha =>
          simp only [PyData.hasDict]
          exact ih.2 _ _ (by simp at hz; omega) ha
        | tup _ ha =>
          simp only [PyData.hasDict]
          exact ih.2 _ _ (by simp at hz; omega) ha
      · cases h with
        | nil => rfl
        | cons h1 h2 =>
          simp only [PyData.hasDictAll]
          rw [ih.1 _ _ (by simp at hz; omega) h1, ih.2 _ _ (by simp at hz; omega) h2]
          rfl
  exact ⟨fun d v => (one (sizeOf d + 1)).1 d v (Nat.lt_succ_self _), fun ds vs => (one (sizeOf ds + 1)).2 ds vs (Nat.lt_succ_self _)⟩

theorem call_repr {X : Cx} (hg : X.A.guards = some []) (hu : X.A.units + 64 < cLine) : CallR X (.builtin "repr") (rRepr X.K) := by
  intro pins s σ H xs us Q I r h
  obtain ⟨v, d, rfl, hd, hs, hdep, hz, q⟩ := h
  obtain ⟨u, rfl, rv⟩ := vals1 r
  have keep : ∀ (h' : Heap) (t' : Nat), (∀ b o, s.heap.get? b = some o → h'.get? b = some o) → Inv X pins σ H { s with heap := h', toks := t' } :=
    fun h' t' k => I.kept (t' := t') k
  have nd := (dp_noDict X.K H).1 d v hd
  obtain ⟨as, rd⟩ := Dp.reads I d v u hd rv
  cases hd with
  | non =>
    cases rv
    exact PySem.P.repr_of_none ⟨.str _, H, I.tok _, ⟨_, rfl⟩, q⟩
  | bl b =>
    cases rv
    refine PySem.P.repr_of_bool ⟨.str _, H, I.tok _, ⟨_, rfl⟩, ?_⟩
    exact q
  | int i =>
    obtain ⟨t, rfl⟩ := rv
    exact PySem.P.repr_of_int (by simpa [PyData.showable] using hs) ⟨.str _, H, I.tok _, ⟨_, rfl⟩, q⟩
  | str x =>
    obtain ⟨t, rfl⟩ := rv
    exact PySem.P.repr_of_str ⟨.str _, H, I.tok _, ⟨_, rfl⟩, q⟩ hz
  | lst _ _ =>
    cases rv
    exact repr_of_reads' rd hs (fun e => by rw [nd] at e; cases e) hg (by omega) (fun _ _ e => e) (fun h' w tk k => ⟨.str _, H, keep h' tk k, ⟨_, rfl⟩, q⟩) hz
  | tup _ _ =>
    cases rv
    exact repr_of_reads' rd hs (fun e => by rw [nd] at e; cases e) hg (by omega) (fun _ _ e => e) (fun h' w tk k => ⟨.str _, H, keep h' tk k, ⟨_, rfl⟩, q⟩) hz

def rLen (K : PySem.W.Frag) : List V → Hp → VK → Prop := fun xs H Q =>
  ∃ p ys, xs = [.ref p] ∧ (SqL K H p ys ∨ SqT K H p ys) ∧ Q (.int ys.length) H
theorem call_len {X : Cx} : CallR X (.builtin "len") (rLen X.K) := call_len_seq
def rListOf (K : PySem.W.Frag) : List V → Hp → VK → Prop := fun xs H Q =>
  ∃ p ys, xs = [.ref p] ∧ (SqL K H p ys ∨ SqT K H p ys) ∧ ∀ l, H l = none → Q (.ref l) (upd H l (.lst ys))
theorem call_listOf {X : Cx} : CallR X (.type "list") (rListOf X.K) := call_list_of

/-- a def's promise, asked only where guards are empty -/
structure FnG (P : Program) (w : World) (K : PySem.W.Frag) (mg : Str → Option Value) (base : Heap) (CX : CXT)
    (k : Nat) (f : Addr) (fd : FuncData) (ps : List Str) (sp : Sp) : Prop where
  arity : ∀ as H Q E, sp as H Q E → as.length = ps.length
  go : ∀ (A : Around) (outer : List Env) (s : Shared) (H : Hp) (args : Args) (us : List Value) (as : List V) (Q : VK) (E : XK),
    A.guards = some [] → Room k A → Env0 P w K mg base A outer s H → BindsTo s fd args (ps.zip us) → Vals as us → sp as H Q E →
      codeAny (model P w) A (.call (.ref f) args) (CR CX outer P w H s Q E) s

section
variable {P : Program} {w : World} {K : PySem.W.Frag} {mg : Str → Option Value} {base : Heap} {CX : CXT}
theorem FnG.of {k : Nat} {f : Addr} {fd : FuncData} {ps : List Str} {sp : Sp} (F : FnOk P w K mg base CX k f fd ps sp) :
    FnG P w K mg base CX k f fd ps sp :=
  ⟨F.len, fun A outer s H args us as Q E _ => F.run A outer s H args us as Q E⟩

/-- a def by its body -/
theorem okG {x qual : Str} {st : Stmt} {f : Addr} {fd : FuncData} {N ps : List Str} {k : Nat} {sp : Sp}
    (F : Fun K x qual st f fd) (S : FnScope N ps (defScope st)) (len : ∀ as H Q E, sp as H Q E → as.length = ps.length)
    (body : ∀ (cdv : Value) (A : Around) (outer : List Env) (s : Shared) (H : Hp) (as : List V) (Q : VK) (E : XK),
      (A.deeper (envOfC qual (defScope st) s.heap.objs.size f cdv)).guards = some [] →
      Room k (A.deeper (envOfC qual (defScope st) s.heap.objs.size f cdv)) → sp as H Q E →
      ∃ t, PSs (cxOf CX P w K mg base N qual (defScope st) f cdv A outer s H E) (defBody st) t ∧
        t { nx := fun _ H' => Q .non H', rt := Q } (start N as) H) :
    FnG P w K mg base CX (k + 1) f fd ps sp := by
  obtain ⟨oc, od, kV, doc, pm, an, cdv, ct, osl, rfl, lk, hcd⟩ := F.ex
  refine ⟨len, fun A outer s H args us as Q E hA hr e0 hb r hsp => ?_⟩
  have hl := len _ _ _ _ hsp
  have KX : K.In s.heap := e0.mod.kin.keeps fun b o e => (e0.bs b o e).1
  have lim : s.heap.NoLimit := e0.mod.nolimit.keeps fun b o e => (e0.bs b o e).1
  have kinds : ∀ y ∈ ps.zip us, (defScope st).names.lookup y.1 = some .local ∨
      ((defScope st).names.lookup y.1 = some .cell ∧ ((cellsFrom (s.heap.objs.size + 1) (defScope st).names []).lookup y.1).isSome = true) := by
    rintro ⟨n, v⟩ hy
    rcases S.par n (List.of_mem_zip hy).1 with q | q
    · exact .inl q
    · exact .inr ⟨q, PySem.W.cellsFrom_some _ _ _ (.inl q)⟩
  refine codeAny_call_function hr.depth (KX _ _ lk) rfl S.co S.gen rfl (PySem.W.codeRec_of KX hcd) (hb _ _ _ _ ?_)
  refine wpAny_newFunctionEnv_cells S.kind kinds fun env he s1 z => ?_
  subst he
  refine ⟨lim.keeps z.toInCall.keep, codeAny_func ?_⟩
  obtain ⟨t, ht, hq⟩ := body cdv A outer s H as Q E hA (hr.deeper _) hsp
  have I0 : Inv (cxOf CX P w K mg base N qual (defScope st) f cdv A outer s H E) [] (start N as) H s1 :=
    inv_start S hr.hd e0 hl r z
  refine wpAny_mono (ht.run [] s1 (start N as) H _ I0 hq) ?_ fun e s' hs => hs
  intro fl s' hs
  have done : ∀ (σ' : L2.St) (H' : Hp) (v : V) (u : Value), Inv (cxOf CX P w K mg base N qual (defScope st) f cdv A outer s H E) [] σ' H' s' →
      RelV v u → Q v H' → CE outer P w H s Q u s' := fun σ' H' v u J rv q => ⟨v, H', J.os, J.bare, J.base, J.hok, rv, q⟩
  cases fl with
  | ret u =>
    obtain ⟨v, σ', H', J, rv, q⟩ := hs
    exact done σ' H' v u J rv q
  | next =>
    obtain ⟨σ', H', J, q⟩ := hs
    exact done σ' H' V.non Value.none J rfl q
  | brk => exact hs.elim fun _ h => h.elim fun _ h => False.elim h.2
  | cont => exact hs.elim fun _ h => h.elim fun _ h => False.elim h.2
end

section
variable {P : Program} {w : World} {K : PySem.W.Frag} {mg : Str → Option Value} {base : Heap}
/-- .. that lets nothing out -/
theorem okG0 {x qual : Str} {st : Stmt} {f : Addr} {fd : FuncData} {N ps : List Str} {k : Nat} {sp : Sp}
    (F : Fun K x qual st f fd) (S : FnScope N ps (defScope st)) (len : ∀ as H Q E, sp as H Q E → as.length = ps.length)
    (body : ∀ (cdv : Value) (A : Around) (outer : List Env) (s : Shared) (H : Hp) (as : List V) (Q : VK) (E : XK),
      (A.deeper (envOfC qual (defScope st) s.heap.objs.size f cdv)).guards = some [] →
      Room k (A.deeper (envOfC qual (defScope st) s.heap.objs.size f cdv)) → sp as H Q E →
      ∃ t, PSs (cxOf CX0 P w K mg base N qual (defScope st) f cdv A outer s H E).nox (defBody st) t ∧
        t { nx := fun _ H' => Q .non H', rt := Q } (start N as) H) :
    FnG P w K mg base CX0 (k + 1) f fd ps sp :=
  okG F S len fun cdv A outer s H as Q E hA hr h =>
    let ⟨t, h1, h2⟩ := body cdv A outer s H as Q E hA hr h
    ⟨t, h1.nox, h2⟩
end

section
variable {X : Cx} {CX : CXT} {k : Nat} {f : Addr} {fd : FuncData} {ps : List Str} {sp : Sp} {E : XK} {x : Str} {p pos : Pos} {e : Expr} {es : List Expr} {t : TA}
theorem runG {pins : List (Addr × Obj)} {σ : L2.St} {H : Hp} {s : Shared} {Q : VK} {us : List Value} {as : List V}
    (F : FnG X.prog X.w X.K X.mg X.base CX k f fd ps sp) (hA : X.A.guards = some []) (hr : Room k X.A) (hb : Binds X.K fd ps [])
    (hx : Passes CX X E) (I : Inv X pins σ H s) (r : Vals as us) (h : sp as H Q E) :
    wpAny (model X.prog X.w) X.A (call (.ref f) us) (EP X pins σ Q) X.xe s := by
  have hn : us.length = ps.length := r.length.symm.trans (F.arity _ _ _ _ h)
  have bind := hb s us I.kIn (by rw [List.append_nil]; exact hn)
  rw [List.append_nil] at bind
  refine wpAny_call (codeAny_mono (F.go X.A X.stack s H ⟨us, []⟩ us as Q E hA hr I.env0 bind r h) ?_)
  intro res s' hq
  match res, hq with
  | .error e, hq => exact hx pins σ H s e s' I hq
  | .ok (.ret u), hq => exact I.after hq
  | .ok .next, hq => exact False.elim hq
  | .ok .brk, hq => exact False.elim hq
  | .ok .cont, hq => exact False.elim hq
/-- f(e, ..) -/
theorem pe_callG (F : FnG X.prog X.w X.K X.mg X.base CX k f fd ps sp) (hA : X.A.guards = some []) (hr : Room k X.A) (hg : Gl X x)
    (hm : X.mg x = some (.ref f)) (hk : PySem.W.keepIn X.K (.ref f) = true) (hb : Binds X.K fd ps []) (hx : Passes CX X E) (ha : PA X (e :: es) t)
    (hdb : (x == ("__debug__" : Str)) = false := by decide) (he : starEach (e :: es) X.env = (false, eval e X.env) :: starEach es X.env := by rfl)
    (hpl : (backTo pos (starEach es X.env)).any (·.1) = false := by rfl) :
    PE X (.Call (.Name x p) (e :: es) [] pos) (tCall sp [] E t) := by
  constructor
  intro pins s σ H Q I h
  refine wpAny_Call_Name_kw (ld_glob I hg hm ?_ hdb)
  have args := ha.run pos pins s σ H _ I h
  refine PySem.W.callWith_K (h₀ := X.base) I.ok.mod.kin hk (thn args ?_) he hpl
  rintro us s1 ⟨as, H1, I1, r, q⟩
  rw [List.append_nil] at q
  exact ⟨I1.kIn, runG F hA hr hb hx I1 r q⟩
theorem pe_callG0 (F : FnG X.prog X.w X.K X.mg X.base CX k f fd ps sp) (hA : X.A.guards = some []) (hr : Room k X.A) (hg : Gl X x)
    (hm : X.mg x = some (.ref f)) (hk : PySem.W.keepIn X.K (.ref f) = true) (hb : Binds X.K fd ps []) (hx : Passes CX X E)
    (hdb : (x == ("__debug__" : Str)) = false := by decide) : PE X (.Call (.Name x p) [] [] pos) (tCall sp [] E tNil) := by
  constructor
  intro pins s σ H Q I h
  refine wpAny_Call_Name_kw (ld_glob I hg hm ?_ hdb)
  exact PySem.W.callWith_K0 I.kIn hk (runG (us := []) (as := []) F hA hr hb hx I .nil h)
end

/-- a statement, then the rest, joined by a word: the rest is read once -/
def tJoin (t u : TS) : TS := fun D σ H => ∃ M : L2.St → Hp → Prop, t { D with nx := M } σ H ∧ ∀ σ' H', M σ' H' → u D σ' H'
theorem pss_join {X : Cx} {st : Stmt} {more : List Stmt} {t u : TS} (h1 : PS X st t) (h2 : PSs X more u) : PSs X (st :: more) (tJoin t u) := by
  constructor
  intro pins s σ H D I h
  obtain ⟨M, hm, hu⟩ := h
  refine wpAny_execs_cons (thn (h1.run pins s σ H _ I hm) ?_)
  intro fl s1 q
  match fl, q with
  | .next, ⟨σ', H', I', q⟩ => exact h2.run pins s1 σ' H' D I' (hu σ' H' q)
  | .ret v, q => exact q
  | .brk, q => exact q
  | .cont, q => exact q
/-- f(k = v, ..), keywords alone -/
def tKw (m : Nat) (sp : Sp) (gV : List V → List V → List V) (E : XK) (tk : TA) : TE := fun σ H Q => tk σ H fun zs H2 => zs.length = m ∧ sp (gV [] zs) H2 Q E
theorem pe_callK0 {X : Cx} {CX : CXT} {k : Nat} {f : Addr} {fd : FuncData} {ps ks : List Str} {sp : Sp} {E : XK} {x : Str} {p pos : Pos} {kws : List Keyword} {tk : TA}
    {g : List Value → List Value → List Value} {gV : List V → List V → List V}
    (F : FnOk X.prog X.w X.K X.mg X.base CX k f fd ps sp) (hr : Room k X.A) (hg : Gl X x) (hm : X.mg x = some (.ref f)) (hk : PySem.W.keepIn X.K (.ref f) = true)
    (hb : KBn X.K fd ps 0 ks g gV) (hx : Passes CX X E) (hkw : PK X kws tk) (hall : (backToKw pos (keywordEach kws X.env)).all (·.1.isSome) = true := by rfl)
    (hks : (backToKw pos (keywordEach kws X.env)).filterMap (·.1) = ks := by rfl) (hdb : (x == ("__debug__" : Str)) = false := by decide)
    (hpl : ((backTo pos (starEach [] X.env)).any (·.1) || (backToKw pos (keywordEach kws X.env)).any (·.1.isNone)) = false := by rfl) :
    PE X (.Call (.Name x p) [] kws pos) (tKw ks.length sp gV E tk) := by
  constructor
  intro pins s σ H Q I h
  refine wpAny_Call_Name_kw (ld_glob I hg hm ?_ hdb)
  refine PySem.W.callWith_KW0 (h₀ := X.base) I.ok.mod.kin hk hall ?_ hpl
  refine thn (hkw.run pos pins s σ H _ I h) ?_
  rintro ws s2 ⟨zs, H2, I2, rz, len, q⟩
  refine ⟨I2.kIn, ?_⟩
  rw [hks]
  have rel := hb.rel (vs := []) (us := []) .nil rz
  have bind := hb.to s2 [] ws I2.kIn rfl (rz.length.symm.trans len)
  refine wpAny_call (codeAny_mono (F.run X.A X.stack s2 H2 ⟨[], ks.zip ws⟩ _ _ Q E hr I2.env0 bind rel q) ?_)
  intro res s' hq
  match res, hq with
  | .error e, hq => exact hx pins σ H2 s2 e s' I2 hq
  | .ok (.ret u), hq => exact I2.after hq
  | .ok .next, hq => exact False.elim hq
  | .ok .brk, hq => exact False.elim hq
  | .ok .cont, hq => exact False.elim hq
/-- how keywords bind for a def without defaults -/
theorem kb_of {K : PySem.W.Frag} {x qual : Str} {st : Stmt} {f : Addr} {fd : FuncData} {ps ks : List Str} {n : Nat} (F : Fun K x qual st f fd)
    (g : {α : Type} → List α → List α → List α) (rel : ∀ {vs zs : List V} {us ws : List Value}, Vals vs us → Vals zs ws → Vals (g vs zs) (g us ws))
    (h : ∀ (kV doc pm : Value) (an : Option Addr) (cdv ct : Value) (us ws : List Value), us.length = n → ws.length = ks.length →
      bindArgs (PySem.W.fnOf x qual (defArgs st) (defBody st) (defScope st) .none kV doc pm an cdv ct) ⟨us, ks.zip ws⟩ = pure (ps.zip (g us ws))) :
    KBn K fd ps n ks (fun us ws => g us ws) (fun vs zs => g vs zs) := by
  obtain ⟨oc, od, kV, doc, pm, an, cdv, ct, osl, rfl, lk, hcd⟩ := F.ex
  exact ⟨fun s us ws _ h1 h2 => .of_eq (h kV doc pm an cdv ct us ws h1 h2), fun a b => rel a b⟩

/-- a law's call: the script is all that may be tracked -/
theorem lawG {P : Program} {w : World} {K : PySem.W.Frag} {mg mb : Str → Option Value} {CX : CXT} {k : Nat} {fa a : Addr} {fd : FuncData} {x : Str}
    {sp : Sp} {s1 : Shared} {vs : List Value} {ns : List Int} (KX : K.In s1.heap) (hns : s1.heap.Ns mainGlobals mg) (hb : s1.heap.Ns builtinsNs mb)
    (hbb : ∀ y : Str, y ≠ "__name__" → mb y = bootBuiltins y) (hlim : s1.heap.NoLimit) (hg : s1.gens = #[])
    (ha : s1.heap.get? a = some { cls := .type "list", data := .seq vs.toArray }) (hi : IntsAre vs ns) (hl : ns.length ≤ sizeLine) (hr : Room k callerA)
    (F : ∀ base : Heap, K.In base → base.Ns mainGlobals mg → FnG P w K mg base CX k fa fd [x] sp)
    (hbind : ∀ (s : Shared) (u : Value), BindsTo s fd ⟨[u], []⟩ [(x, u)])
    (hsp : ∀ H : Hp, Only H → SqL K H a (ns.map V.int) → sp [.ref a] H (fun v _ => v = .bl true) fun _ _ _ => False)
    (hCX : ∀ H e s', CX [] H s1 (fun _ _ _ => False) e s' → False) :
    codeAny (model P w) callerA (.call (.ref fa) ⟨[.ref a], []⟩)
      (fun r s' => r = .ok (.ret (.bool true)) ∧ OldK s1.heap s'.heap ∧ s'.os = s1.os ∧ AllBare s'.gens) s1 := by
  have inner : ∀ H : Hp, Only H → SqL K H a (ns.map V.int) → HOk P w H s1.heap → (∀ b, H b ≠ none → b = a) → (H a ≠ none → K.lookup a = none) →
      codeAny (model P w) callerA (.call (.ref fa) ⟨[.ref a], []⟩)
        (fun r s' => r = .ok (.ret (.bool true)) ∧ OldK s1.heap s'.heap ∧ s'.os = s1.os ∧ AllBare s'.gens) s1 := by
    intro H hO hS hok only noK
    have nodict : ∀ {b : Addr} {o : Obj} {es : Array DictEntry} {ep : Nat}, s1.heap.get? b = some o → o.data = .dict es ep → H b = none := by
      intro b o es ep e d
      by_cases q : H b = none
      · exact q
      · have eb := only b q
        subst eb
        rw [ha] at e
        cases e
        cases d
    have names : ∀ {b : Addr} {m : Str → Option Value}, s1.heap.Ns b m → (hidT s1.heap H).Ns b m := by
      rintro b m ⟨o, es, ep, e, d, r⟩
      exact ⟨o, es, ep, hidT_get e (nodict e d), d, r⟩
    have kin : K.In (hidT s1.heap H) := by
      intro b o e
      refine hidT_get (KX b o e) ?_
      by_cases q : H b = none
      · exact q
      · have eb := only b q
        subst eb
        rw [noK q] at e
        cases e
    have modul : Mod K mg (hidT s1.heap H) := by
      obtain ⟨mc, l1, l2⟩ := hlim
      exact ⟨kin, names hns, ⟨mb, names hb, hbb⟩, ⟨mc, names l1, l2⟩⟩
    have nil : ∀ b : Addr, ¬ b ∈ ([] : List Addr) := fun b z => by cases z
    have env : Env0 P w K mg (hidT s1.heap H) callerA [] s1 H :=
      ⟨rfl, modul, fun b o e => of_hidT e, Nat.le_of_eq (hidT_size _ _), trivial, fun b z => absurd z (nil b), hok, .of_eq hg⟩
    have ran := (F _ kin (names hns)).go callerA [] s1 H ⟨[.ref a], []⟩ [.ref a] [.ref a] _ _ rfl hr env (hbind s1 (.ref a)) (.cons rfl .nil) (hsp H hO hS)
    refine codeAny_mono ran ?_
    intro res s' h
    match res, h with
    | .error e, h => exact (hCX H e s' h).elim
    | .ok .next, h => exact False.elim h
    | .ok .brk, h => exact False.elim h
    | .ok .cont, h => exact False.elim h
    | .ok (.ret u), h =>
      obtain ⟨v, H', os, bare, un, hok', rv, rfl⟩ := h
      obtain rfl : u = Value.bool true := rv
      refine ⟨rfl, OldK.of_keep fun b o e => ?_, os, bare⟩
      rcases hO b with z | ⟨ob, xs, z⟩
      · exact un.keep b o e z (nil b) (nil b)
      · obtain ⟨e1, _⟩ := hok b _ z
        obtain ⟨e2, _⟩ := hok' b _ (un.frzs b ob _ z)
        rw [e] at e1
        cases e1
        exact e2
  have rv := vals_ints hi
  have len := hi.length
  cases hk : K.lookup a with
  | some o =>
    have e := KX a o hk
    rw [ha] at e
    cases e
    have seen : SqL K (fun _ => none) a (ns.map V.int) :=
      .inr ⟨_, vs.toArray, _, hk, rfl, rfl, rfl, by rw [List.size_toArray, len]; exact hl, by simpa using rv⟩
    exact inner (fun _ => none) (fun _ => .inl rfl) seen (fun b u z => by cases z) (fun b z => absurd rfl z) fun z => absurd rfl z
  | none =>
    have at_a : (if a = a then some (HO.frz { cls := .type "list", data := .seq vs.toArray } (.lst (ns.map V.int))) else none) = some (HO.frz { cls := .type "list", data := .seq vs.toArray } (.lst (ns.map V.int))) := if_pos rfl
    refine inner (fun b => if b = a then some (.frz { cls := .type "list", data := .seq vs.toArray } (.lst (ns.map V.int))) else none) ?_ (.inl (.inr ⟨_, at_a⟩)) ?_ ?_ fun _ => hk
    · intro b
      by_cases hb : b = a
      · exact .inr ⟨_, _, if_pos hb⟩
      · exact .inl (if_neg hb)
    · intro b u z
      have z' : (if b = a then some (HO.frz { cls := .type "list", data := .seq vs.toArray } (.lst (ns.map V.int))) else none) = some u := z
      by_cases hb : b = a
      · rw [if_pos hb] at z'
        cases z'
        subst hb
        exact ⟨ha, by rw [List.length_map]; exact hl, vs, _, rv, ha⟩
      · rw [if_neg hb] at z'
        cases z'
    · intro b z
      by_cases hb : b = a
      · exact hb
      · exact absurd (if_neg hb) z

theorem walkG {l : PySem.W.OpenLaw} {n k : Nat} {q : Program} {loose : List Str} {XP : (Str → Option Value) → Heap → Prop} {YP : World → Heap → Prop}
    {d : DefRec} {K : Params → PySem.W.Frag} {CX : World → CXT} {sp : World → Sp} {x : Str}
    (hn : l.most = some n) (hn2 : n ≤ sizeLine) (hdf : d.params.defaults = []) (hr : Room k callerA) (hY : ∀ (w : World) (h : Heap), YP w h → (K w.params).In h)
    (F : ∀ (w : World) (mg : Str → Option Value) (fa : Addr) (h : Heap), (K w.params).In h → h.Ns mainGlobals mg → mg d.name = some (.ref fa) →
      ∃ fd : FuncData, (∀ (s : Shared) (u : Value), BindsTo s fd ⟨[u], []⟩ [(x, u)]) ∧ ∀ base : Heap, (K w.params).In base → base.Ns mainGlobals mg →
        FnG l.prog w (K w.params) mg base (CX w) k fa fd [x] (sp w))
    (hsp : ∀ (w : World) (H : Hp) (a : Addr) (ns : List Int), ns.length ≤ n → Only H → SqL (K w.params) H a (ns.map V.int) →
      sp w [.ref a] H (fun v _ => v = .bl true) fun _ _ _ => False)
    (hCX : ∀ (w : World) (H : Hp) (s : Shared) (e : Value) (s' : Shared), CX w [] H s (fun _ _ _ => False) e s' → False) :
    PySem.W.WalkO q loose XP YP l.row.toRowW d [] (fun f vs => PySem.call f vs) := by
  refine Att.attach_call hn hdf ?_
  intro w s0 s1 mg mb fa o pm cd doc a vs ns G Y ho hd hcd hmg hobj hints hlen hg
  obtain ⟨fd, hb, hF⟩ := F w mg fa _ (hY w _ Y) G.T.g hmg
  exact lawG (hY w _ Y) G.T.g G.T.b G.T.builtins G.T.nolimit hg hobj hints (Nat.le_trans hlen hn2) hr hF hb
    (fun H hO hS => hsp w H a ns hlen hO hS) fun H e s' => hCX w H s1 e s'
end VG

/-! Curves as they are written: values, a period, a gain; plain Lean. -/
namespace VM
/-- the value at t of the curve written so -/
def cvAt (vs : List Int) (p g t : Int) : Int :=
  if t = 0 then 0 else if t ≤ (vs.length : Int) then vs.getD (t - 1).toNat 0 else
    vs.getD (t - (t - vs.length + p - 1) / p * p - 1).toNat 0 + (t - vs.length + p - 1) / p * g

theorem cvAt_zero {vs : List Int} {p g : Int} : cvAt vs p g 0 = 0 := by simp [cvAt]
theorem cvAt_in {vs : List Int} {p g t : Int} (h : 0 < t) (h1 : t ≤ vs.length) : cvAt vs p g t = vs.getD (t - 1).toNat 0 := by
  unfold cvAt
  rw [if_neg (by omega), if_pos h1]

/-- the rounds: between them t lies in the last period -/
theorem rounds_spec {n p t : Int} (hp : 0 < p) (ht : n < t) :
    0 < (t - n + p - 1) / p ∧ n - p < t - (t - n + p - 1) / p * p ∧ t - (t - n + p - 1) / p * p ≤ n := by
  have e := Int.emod_add_mul_ediv (t - n + p - 1) p
  have l := Int.emod_nonneg (t - n + p - 1) (show p ≠ 0 by omega)
  have u := Int.emod_lt_of_pos (t - n + p - 1) hp
  have c : (t - n + p - 1) / p * p = p * ((t - n + p - 1) / p) := Int.mul_comm _ _
  have q1 : 1 ≤ (t - n + p - 1) / p := by
    have := (Int.le_ediv_iff_mul_le (c := p) hp (a := 1) (b := t - n + p - 1)).mpr (by omega)
    exact this
  exact ⟨by omega, by omega, by omega⟩
theorem rounds_step {n p t : Int} (hp : 0 < p) : (t - p - n + p - 1) / p = (t - n + p - 1) / p - 1 := by
  have : t - p - n + p - 1 = (t - n + p - 1) + (-1) * p := by omega
  rw [this, Int.add_mul_ediv_right _ _ (by omega)]
  omega
/-- behind the values: one period back, and the gain -/
theorem cvAt_back {vs : List Int} {p g t : Int} (hp : 0 < p) (hpn : p ≤ vs.length) (ht : (vs.length : Int) < t) : cvAt vs p g t = cvAt vs p g (t - p) + g := by
  obtain ⟨r1, r2, r3⟩ := rounds_spec hp ht
  have st := rounds_step (n := (vs.length : Int)) (p := p) (t := t) hp
  unfold cvAt
  rw [if_neg (by omega), if_neg (by omega), if_neg (show ¬ t - p = 0 by omega)]
  by_cases h : t - p ≤ (vs.length : Int)
  · rw [if_pos h]
    have r : (t - vs.length + p - 1) / p = 1 := by
      have a : (t - vs.length + p - 1) / p < 2 := Int.ediv_lt_of_lt_mul hp (by omega)
      omega
    rw [r, Int.one_mul, Int.one_mul]
  · rw [if_neg h, st]
    have e : t - p - ((t - vs.length + p - 1) / p - 1) * p - 1 = t - (t - vs.length + p - 1) / p * p - 1 := by
      rw [Int.sub_mul, Int.one_mul]; omega
    rw [e, Int.sub_mul, Int.one_mul]
    omega

/-- a function that repeats behind n: with period p and gain g -/
def Rep (f : Int → Int) (n p g : Int) : Prop := ∀ t, n < t → f t = f (t - p) + g
theorem Rep.cvAt {vs : List Int} {p g : Int} (hp : 0 < p) (hpn : p ≤ vs.length) : Rep (cvAt vs p g) vs.length p g := fun _ ht => cvAt_back hp hpn ht

/-- the steps over d, in one period behind n, are all the first one -/
def stepsEq (f : Int → Int) (n p d : Int) : Bool := (List.range p.toNat).all fun (i : Nat) => decide (f (n + 1 + i) - f (n + 1 + i - d) = f (n + 1) - f (n + 1 - d))
/-- the least period from d on that divides p, and its gain -/
def leastFrom (f : Int → Int) (n p : Int) : Nat → Int → Int × Int
  | 0, _ => (p, f (n + p) - f n)
  | k + 1, d => if p % d = 0 ∧ stepsEq f n p d = true then (d, f (n + 1) - f (n + 1 - d)) else leastFrom f n p k (d + 1)
def leastP (f : Int → Int) (n p : Int) : Int × Int := leastFrom f n p (p - 1).toNat 1
/-- how many values must be written -/
def shr (f : Int → Int) (d s : Int) : Nat → Nat
  | 0 => 0
  | m + 1 => if d < (m + 1 : Nat) ∧ f ((m + 1 : Nat) : Int) = f ((m + 1 : Nat) - d) + s then shr f d s m else m + 1
/-- f's values at 1 to m -/
def vals (f : Int → Int) (m : Nat) : List Int := (List.range m).map fun (i : Nat) => f (i + 1)
theorem vals_length {f : Int → Int} {m : Nat} : (vals f m).length = m := by simp [vals]
theorem vals_getD {f : Int → Int} {m i : Nat} (h : i < m) : (vals f m).getD i 0 = f (i + 1) := by
  unfold vals
  rw [List.getD_eq_getElem?_getD, List.getElem?_map, List.getElem?_range h]
  rfl

theorem stepsEq_at {f : Int → Int} {n p d : Int} (h : stepsEq f n p d = true) {t : Int} (h1 : n < t) (h2 : t ≤ n + p) : f t = f (t - d) + (f (n + 1) - f (n + 1 - d)) := by
  unfold stepsEq at h
  rw [List.all_eq_true] at h
  have := h (t - n - 1).toNat (List.mem_range.mpr (by omega))
  have e : n + 1 + ((t - n - 1).toNat : Int) = t := by omega
  rw [e] at this
  have := of_decide_eq_true this
  omega
/-- one round decides -/
theorem Rep.of_steps {f : Int → Int} {n p g d : Int} (R : Rep f n p g) (hd : 0 < d) (hdp : d ≤ p) (h : stepsEq f n p d = true) : Rep f n d (f (n + 1) - f (n + 1 - d)) := by
  have key : ∀ (k : Nat) (t : Int), n < t → t ≤ n + k → f t = f (t - d) + (f (n + 1) - f (n + 1 - d)) := by
    intro k
    induction k with
    | zero => intro t h1 h2; omega
    | succ k ih =>
      intro t h1 h2
      by_cases c : t ≤ n + p
      · exact stepsEq_at h h1 c
      · have a := R t h1
        have b := R (t - d) (by omega)
        have e := ih (t - p) (by omega) (by omega)
        have z : t - d - p = t - p - d := by omega
        rw [z] at b
        omega
  intro t ht
  exact key (t - n).toNat t ht (by omega)
theorem leastFrom_spec {f : Int → Int} {n p g : Int} (R : Rep f n p g) (hp : 0 < p) : ∀ (k : Nat) (d : Int), 0 < d → d + k = p →
    0 < (leastFrom f n p k d).1 ∧ (leastFrom f n p k d).1 ≤ p ∧ Rep f n (leastFrom f n p k d).1 (leastFrom f n p k d).2
  | 0, d, hd, e => by
    unfold leastFrom
    refine ⟨hp, Int.le_refl _, fun t ht => ?_⟩
    have a := R (n + p) (by omega)
    have z : n + p - p = n := by omega
    rw [z] at a
    have b := R t ht
    show f t = f (t - p) + (f (n + p) - f n)
    omega
  | k + 1, d, hd, e => by
    unfold leastFrom
    by_cases c : p % d = 0 ∧ stepsEq f n p d = true
    · rw [if_pos c]
      exact ⟨hd, by show d ≤ p; omega, R.of_steps hd (by omega) c.2⟩
    · rw [if_neg c]
      exact leastFrom_spec R hp k (d + 1) (by omega) (by omega)
theorem leastP_spec {f : Int → Int} {n p g : Int} (R : Rep f n p g) (hp : 0 < p) : 0 < (leastP f n p).1 ∧ (leastP f n p).1 ≤ p ∧ Rep f n (leastP f n p).1 (leastP f n p).2 :=
  leastFrom_spec R hp _ 1 (by omega) (by omega)
theorem shr_spec {f : Int → Int} {d s : Int} (hd : 0 < d) : ∀ (m : Nat), d ≤ m → Rep f m d s → d ≤ shr f d s m ∧ shr f d s m ≤ m ∧ Rep f (shr f d s m) d s
  | 0, h, _ => by omega
  | m + 1, h, R => by
    unfold shr
    by_cases c : d < (m + 1 : Nat) ∧ f ((m + 1 : Nat) : Int) = f ((m + 1 : Nat) - d) + s
    · rw [if_pos c]
      have R' : Rep f m d s := fun t ht => by
        by_cases e : t = ((m + 1 : Nat) : Int)
        · rw [e]; exact c.2
        · exact R t (by omega)
      obtain ⟨a, b, z⟩ := shr_spec hd m (by omega) R'
      exact ⟨a, by omega, z⟩
    · rw [if_neg c]
      exact ⟨h, Nat.le_refl _, R⟩
/-- what repeats behind m is the curve written by its first m values -/
theorem cvAt_vals {f : Int → Int} {m : Nat} {d s : Int} (hd : 0 < d) (hdm : d ≤ m) (h0 : f 0 = 0) (R : Rep f m d s) : ∀ t, 0 ≤ t → cvAt (vals f m) d s t = f t := by
  have key : ∀ (k : Nat) (t : Int), 0 ≤ t → t ≤ k → cvAt (vals f m) d s t = f t := by
    intro k
    induction k with
    | zero =>
      intro t h1 h2
      have : t = 0 := by omega
      rw [this, cvAt_zero, h0]
    | succ k ih =>
      intro t h1 h2
      by_cases z : t = 0
      · rw [z, cvAt_zero, h0]
      · by_cases c : t ≤ (m : Int)
        · rw [cvAt_in (by omega) (by rw [vals_length]; exact c), vals_getD (by omega)]
          congr 1; omega
        · rw [cvAt_back hd (by rw [vals_length]; exact hdm) (by rw [vals_length]; omega), R t (by omega), ih (t - d) (by omega) (by omega)]
  intro t ht
  exact key t.toNat t ht (by omega)
/-- the form: period, gain, values -/
def formP (vs : List Int) (p g : Int) : Int × Int := leastP (cvAt vs p g) vs.length p
def formM (vs : List Int) (p g : Int) : Nat := shr (cvAt vs p g) (formP vs p g).1 (formP vs p g).2 vs.length
def formV (vs : List Int) (p g : Int) : List Int := vals (cvAt vs p g) (formM vs p g)
theorem form_spec {vs : List Int} {p g : Int} (hp : 0 < p) (hpn : p ≤ vs.length) :
    0 < (formP vs p g).1 ∧ (formP vs p g).1 ≤ p ∧ (formP vs p g).1 ≤ (formV vs p g).length ∧ (formV vs p g).length ≤ vs.length ∧
      ∀ t, 0 ≤ t → cvAt (formV vs p g) (formP vs p g).1 (formP vs p g).2 t = cvAt vs p g t := by
  obtain ⟨a, b, R⟩ := leastP_spec (Rep.cvAt (g := g) hp hpn) hp
  obtain ⟨c, d, R'⟩ := shr_spec a vs.length (show (formP vs p g).1 ≤ _ from Int.le_trans b hpn) R
  refine ⟨a, b, ?_, ?_, ?_⟩
  · unfold formV; rw [vals_length]; exact c
  · unfold formV; rw [vals_length]; exact d
  · exact cvAt_vals a c cvAt_zero R'
end VM

/-! Records: sums of windows; plain Lean. -/
namespace VM
/-- the units ahead of tick i -/
def pre (us : List Int) (i : Int) : Int := (us.take i.toNat).sum
def win (us : List Int) (s k : Int) : Int := pre us (s + k) - pre us s
/-- the sum of a slice -/
theorem sum_cut (us : List Int) (s k : Nat) : ((us.drop s).take k).sum = win us s k := by
  unfold win pre
  have e : (((s : Int) + k).toNat) = s + k := by omega
  have e2 : ((s : Int).toNat) = s := by omega
  rw [e, e2, List.take_add, List.sum_append]
  omega
theorem pre_zero (us : List Int) : pre us 0 = 0 := by simp [pre]
theorem pre_all (us : List Int) : pre us us.length = us.sum := by
  unfold pre
  rw [show ((us.length : Nat) : Int).toNat = us.length by omega, List.take_length]
theorem pre_step {us : List Int} {i : Nat} (h : i < us.length) : pre us ((i : Int) + 1) = pre us i + us.getD i 0 := by
  unfold pre
  rw [show ((i : Int) + 1).toNat = i + 1 by omega, show ((i : Int)).toNat = i by omega, List.take_add_one, List.sum_append]
  rw [List.getD_eq_getElem?_getD, List.getElem?_eq_getElem h]
  simp
/-- the first i from a on, of k many, of which P -/
def firstN (p : Nat → Bool) : Nat → Nat → Option Nat
  | 0, _ => none
  | k + 1, i => if p i = true then some i else firstN p k (i + 1)
/-- windows by their length: the first with more than f allows -/
def brk (f : Int → Int) (us : List Int) : Nat → Nat → Option (Int × Int × Int)
  | 0, _ => none
  | k + 1, len => match firstN (fun s => decide (f len < win us s len)) (us.length + 1 - len) 0 with
    | some s => some (len, s, win us s len - f len)
    | none => brk f us k (len + 1)
def breachM (f : Int → Int) (us : List Int) : Option (Int × Int × Int) := brk f us us.length 1
theorem brk_congr {f g : Int → Int} {us : List Int} : ∀ (k len : Nat), (∀ t : Int, (len : Int) ≤ t → t < len + k → f t = g t) → brk f us k len = brk g us k len
  | 0, _, _ => rfl
  | k + 1, len, h => by
    unfold brk
    rw [h len (by omega) (by omega), brk_congr k (len + 1) fun t h1 h2 => h t (by omega) (by omega)]
theorem breachM_congr {f g : Int → Int} {us : List Int} (h : ∀ t : Int, 1 ≤ t → t ≤ us.length → f t = g t) : breachM f us = breachM g us :=
  brk_congr _ _ fun t h1 h2 => h t (by omega) (by omega)
def IsMax (l : List Int) (m : Int) : Prop := m ∈ l ∧ ∀ y ∈ l, y ≤ m
theorem IsMax.eq {l : List Int} {m n : Int} (a : IsMax l m) (b : IsMax l n) : m = n := by
  have h1 := a.2 n b.1
  have h2 := b.2 m a.1
  omega
end VM

/-! Records that enter as early as a curve allows; plain Lean. -/
namespace VM
theorem snoc_ind {P : List Int → Prop} (h0 : P []) (h1 : ∀ l x, P l → P (l ++ [x])) (l : List Int) : P l := by
  have a : ∀ r : List Int, P r.reverse := fun r => by
    induction r with
    | nil => exact h0
    | cons a r ih => rw [List.reverse_cons]; exact h1 _ _ ih
  have b := a l.reverse
  rwa [List.reverse_reverse] at b
/-- the last k units -/
def tl (us : List Int) (k : Nat) : Int := win us ((us.length : Int) - k) k
theorem tl_zero {us : List Int} : tl us 0 = 0 := by
  unfold tl win
  rw [show (us.length : Int) - ((0 : Nat) : Int) + ((0 : Nat) : Int) = (us.length : Int) - ((0 : Nat) : Int) by omega]
  omega
theorem pre_push {e : List Int} {x i : Int} (h : i ≤ e.length) : pre (e ++ [x]) i = pre e i := by
  unfold pre
  rw [List.take_append_of_le_length (by omega)]
theorem pre_last {e : List Int} {x i : Int} (h : i = (e.length : Int) + 1) : pre (e ++ [x]) i = pre e e.length + x := by
  unfold pre
  rw [List.take_of_length_le (by rw [List.length_append, List.length_singleton]; omega), List.take_of_length_le (by omega), List.sum_append]
  simp
theorem tl_push {e : List Int} {x : Int} {k : Nat} (h : k ≤ e.length) : tl (e ++ [x]) (k + 1) = tl e k + x := by
  unfold tl win
  rw [List.length_append, List.length_singleton, pre_last (by omega), pre_push (by omega)]
  rw [show ((e.length + 1 : Nat) : Int) - ((k + 1 : Nat) : Int) = (e.length : Int) - k by omega, show (e.length : Int) - (k : Int) + (k : Int) = e.length by omega]
  omega
/-- one tick further back -/
theorem tl_step {us : List Int} {k : Nat} (h : k < us.length) : tl us (k + 1) = tl us k + us.getD (us.length - 1 - k) 0 := by
  unfold tl win
  rw [show (us.length : Int) - ((k + 1 : Nat) : Int) + ((k + 1 : Nat) : Int) = us.length by omega, show (us.length : Int) - ((k : Nat) : Int) + ((k : Nat) : Int) = us.length by omega]
  have e := pre_step (us := us) (i := us.length - 1 - k) (by omega)
  rw [show ((us.length - 1 - k : Nat) : Int) + 1 = (us.length : Int) - (k : Nat) by omega] at e
  rw [show (us.length : Int) - ((k + 1 : Nat) : Int) = ((us.length - 1 - k : Nat) : Int) by omega]
  omega
/-- how many may enter behind us, as the windows up to k + 1 tell -/
def freeK (f : Int → Int) (us : List Int) : Nat → Int
  | 0 => f 1
  | k + 1 => min (freeK f us k) (f ((k : Int) + 2) - tl us (k + 1))
def freeM (f : Int → Int) (us : List Int) : Int := freeK f us us.length
theorem le_freeK {f : Int → Int} {us : List Int} {c : Int} : ∀ {n : Nat}, c ≤ freeK f us n ↔ ∀ k : Nat, k ≤ n → tl us k + c ≤ f ((k : Int) + 1)
  | 0 => by
    constructor
    · intro h k hk
      have : k = 0 := by omega
      subst this
      rw [tl_zero]
      have : c ≤ f 1 := h
      show 0 + c ≤ f 1
      omega
    · intro h
      have := h 0 (Nat.le_refl _)
      rw [tl_zero] at this
      have e : 0 + c ≤ f 1 := this
      show c ≤ f 1
      omega
  | n + 1 => by
    have ih := le_freeK (f := f) (us := us) (c := c) (n := n)
    constructor
    · intro h k hk
      unfold freeK at h
      by_cases z : k = n + 1
      · subst z
        rw [show ((n + 1 : Nat) : Int) + 1 = (n : Int) + 2 by omega]
        omega
      · exact ih.mp (by omega) k (by omega)
    · intro h
      have a := ih.mpr fun k hk => h k (by omega)
      have b := h (n + 1) (Nat.le_refl _)
      rw [show ((n + 1 : Nat) : Int) + 1 = (n : Int) + 2 by omega] at b
      unfold freeK
      omega
theorem le_free {f : Int → Int} {us : List Int} {c : Int} : c ≤ freeM f us ↔ ∀ k : Nat, k ≤ us.length → tl us k + c ≤ f ((k : Int) + 1) := le_freeK
/-- no window has too many -/
def Kept (f : Int → Int) (us : List Int) : Prop := ∀ s k : Nat, 1 ≤ k → s + k ≤ us.length → win us s k ≤ f k
theorem Kept.push {f : Int → Int} {e : List Int} {x : Int} (h : Kept f e) (hx : x ≤ freeM f e) : Kept f (e ++ [x]) := by
  intro s k h1 h2
  rw [List.length_append, List.length_singleton] at h2
  by_cases c : s + k ≤ e.length
  · have := h s k h1 c
    unfold win at this ⊢
    rw [pre_push (by omega), pre_push (by omega)]
    exact this
  · have a := le_free.mp hx (k - 1) (by omega)
    have b := tl_push (e := e) (x := x) (k := k - 1) (by omega)
    rw [show k - 1 + 1 = k by omega] at b
    unfold tl at b
    rw [List.length_append, List.length_singleton, show ((e.length + 1 : Nat) : Int) - (k : Int) = (s : Int) by omega] at b
    rw [show ((k - 1 : Nat) : Int) + 1 = (k : Int) by omega] at a
    rw [b]
    exact a
theorem Kept.front {f : Int → Int} {e : List Int} {x : Int} (h : Kept f (e ++ [x])) : Kept f e := by
  intro s k h1 h2
  have a := h s k h1 (by rw [List.length_append, List.length_singleton]; omega)
  unfold win at a ⊢
  rw [pre_push (by omega), pre_push (by omega)] at a
  exact a
theorem Kept.free {f : Int → Int} {e : List Int} {x : Int} (h : Kept f (e ++ [x])) : x ≤ freeM f e := by
  refine le_free.mpr fun k hk => ?_
  have a := h (e.length - k) (k + 1) (by omega) (by rw [List.length_append, List.length_singleton]; omega)
  have b := tl_push (e := e) (x := x) (k := k) hk
  unfold tl at b
  rw [List.length_append, List.length_singleton, show ((e.length + 1 : Nat) : Int) - ((k + 1 : Nat) : Int) = ((e.length - k : Nat) : Int) by omega] at b
  rw [b] at a
  have z : ((k + 1 : Nat) : Int) = (k : Int) + 1 := by omega
  rw [z] at a
  exact a
theorem Kept.nil {f : Int → Int} : Kept f [] := fun s k h1 h2 => by
  have : s + k ≤ 0 := h2
  omega
theorem firstN_none {p : Nat → Bool} : ∀ {k i : Nat}, firstN p k i = none ↔ ∀ j, i ≤ j → j < i + k → p j = false
  | 0, i => ⟨fun _ => fun j a b => absurd b (by omega), fun _ => rfl⟩
  | k + 1, i => by
    have ih := firstN_none (p := p) (k := k) (i := i + 1)
    unfold firstN
    by_cases c : p i = true
    · rw [if_pos c]
      refine ⟨fun h => (by cases h), fun h => ?_⟩
      rw [h i (Nat.le_refl _) (by omega)] at c
      cases c
    · rw [if_neg c, ih]
      refine ⟨fun h j a b => ?_, fun h j a b => h j (by omega) (by omega)⟩
      by_cases z : j = i
      · rw [z]; simpa using c
      · exact h j (by omega) (by omega)
theorem brk_none {f : Int → Int} {us : List Int} : ∀ {k len : Nat}, brk f us k len = none ↔ ∀ t : Nat, len ≤ t → t < len + k → ∀ s : Nat, s < us.length + 1 - t → win us s t ≤ f t
  | 0, len => ⟨fun _ => fun t a b => absurd b (by omega), fun _ => rfl⟩
  | k + 1, len => by
    have ih := brk_none (f := f) (us := us) (k := k) (len := len + 1)
    have fn := firstN_none (p := fun s => decide (f len < win us s len)) (k := us.length + 1 - len) (i := 0)
    unfold brk
    cases hh : firstN (fun s => decide (f len < win us s len)) (us.length + 1 - len) 0 with
    | some s =>
      refine ⟨fun h => (by cases h), fun h => ?_⟩
      have : firstN (fun s => decide (f len < win us s len)) (us.length + 1 - len) 0 = none := fn.mpr fun j _ b => by
        have := h len (Nat.le_refl _) (by omega) j (by omega)
        exact decide_eq_false (by omega)
      rw [hh] at this; cases this
    | none =>
      show brk f us k (len + 1) = none ↔ _
      rw [ih]
      refine ⟨fun h t a b s hs => ?_, fun h t a b s hs => h t (by omega) (by omega) s hs⟩
      by_cases z : t = len
      · subst z
        have := fn.mp hh s (Nat.zero_le _) (by omega)
        have := of_decide_eq_false this
        omega
      · exact h t (by omega) (by omega) s hs
theorem kept_iff {f : Int → Int} {us : List Int} : breachM f us = none ↔ Kept f us := by
  unfold breachM
  rw [brk_none]
  exact ⟨fun h s k h1 h2 => h k h1 (by omega) s (by omega), fun h t a b s hs => h s t a (by omega)⟩
/-! ### shaped -/
def shS (f : Int → Int) (st : List Int × Int) (u : Int) : List Int × Int := (st.1 ++ [min (st.2 + u) (freeM f st.1)], st.2 + u - min (st.2 + u) (freeM f st.1))
def shG (f : Int → Int) (us : List Int) : List Int × Int := us.foldl (shS f) ([], 0)
def shapedM (f : Int → Int) (us : List Int) : List Int := (shG f us).1
theorem shG_push {f : Int → Int} {us : List Int} {u : Int} : shG f (us ++ [u]) = shS f (shG f us) u := by
  unfold shG; rw [List.foldl_append]; rfl
theorem shG_take {f : Int → Int} {us : List Int} {i : Nat} (h : i < us.length) : shG f (us.take (i + 1)) = shS f (shG f (us.take i)) (us.getD i 0) := by
  rw [← shG_push, List.take_add_one, List.getElem?_eq_getElem h, List.getD_eq_getElem?_getD, List.getElem?_eq_getElem h]
  rfl
theorem shG_length {f : Int → Int} (us : List Int) : (shG f us).1.length = us.length := by
  refine snoc_ind (P := fun us => (shG f us).1.length = us.length) rfl (fun l x ih => ?_) us
  show (shG f (l ++ [x])).1.length = (l ++ [x]).length
  rw [shG_push]
  unfold shS
  rw [List.length_append, List.length_append, ih]
  rfl
theorem shaped_length {f : Int → Int} (us : List Int) : (shapedM f us).length = us.length := shG_length us
theorem shaped_kept {f : Int → Int} (us : List Int) : Kept f (shapedM f us) := by
  refine snoc_ind (P := fun us => Kept f (shapedM f us)) Kept.nil (fun l x ih => ?_) us
  show Kept f (shG f (l ++ [x])).1
  rw [shG_push]
  exact Kept.push ih (by show min _ _ ≤ _; unfold shapedM at *; omega)
theorem kept_shaped {f : Int → Int} {us : List Int} (h : Kept f us) : shG f us = (us, 0) := by
  revert h
  refine snoc_ind (P := fun us => Kept f us → shG f us = (us, 0)) (fun _ => rfl) (fun l x ih h => ?_) us
  have a := h.free
  rw [shG_push, ih h.front]
  unfold shS
  simp only
  rw [show min (0 + x) (freeM f l) = x by omega]
  congr 1
  omega
/-- rising values from 1 on -/
structure Up (f : Int → Int) : Prop where
  one : 0 ≤ f 1
  up : ∀ k : Nat, 1 ≤ k → f k ≤ f ((k : Int) + 1)
theorem Up.free {f : Int → Int} (U : Up f) {e : List Int} (h : Kept f e) : 0 ≤ freeM f e := by
  refine le_free.mpr fun k hk => ?_
  by_cases z : k = 0
  · subst z
    rw [tl_zero]
    have := U.one
    show 0 + 0 ≤ f 1
    omega
  · have a := h (e.length - k) k (by omega) (by omega)
    have b := U.up k (by omega)
    unfold tl
    rw [show (e.length : Int) - (k : Int) = ((e.length - k : Nat) : Int) by omega]
    omega
theorem sum_snoc {l : List Int} {x : Int} : (l ++ [x]).sum = l.sum + x := by rw [List.sum_append]; simp
/-- what entered and waits: counts, together what came -/
theorem shG_bound {f : Int → Int} (U : Up f) {us : List Int} (h : ∀ u ∈ us, 0 ≤ u) : 0 ≤ (shG f us).2 ∧ (shG f us).1.sum + (shG f us).2 = us.sum ∧ ∀ x ∈ (shG f us).1, 0 ≤ x ∧ x ≤ us.sum := by
  revert h
  refine snoc_ind (P := fun us => (∀ u ∈ us, 0 ≤ u) → 0 ≤ (shG f us).2 ∧ (shG f us).1.sum + (shG f us).2 = us.sum ∧ ∀ x ∈ (shG f us).1, 0 ≤ x ∧ x ≤ us.sum) (fun _ => ⟨Int.le_refl _, rfl, fun x hx => by cases hx⟩) (fun l u ih h => ?_) us
  have hu := h u (by simp)
  obtain ⟨a, b, c⟩ := ih fun y hy => h y (List.mem_append_left _ hy)
  have fr := U.free (shaped_kept (f := f) l)
  unfold shapedM at fr
  have ps : 0 ≤ (shG f l).1.sum := by
    have : ∀ r : List Int, (∀ x ∈ r, 0 ≤ x) → 0 ≤ r.sum := fun r => by
      induction r with
      | nil => intro _; decide
      | cons z r ih => intro q; rw [List.sum_cons]; have := q z List.mem_cons_self; have := ih fun y hy => q y (List.mem_cons_of_mem _ hy); omega
    exact this _ fun x hx => (c x hx).1
  rw [shG_push, sum_snoc]
  unfold shS
  simp only [sum_snoc]
  refine ⟨by omega, by omega, fun x hx => ?_⟩
  rcases List.mem_append.mp hx with q | q
  · have := c x q; omega
  · cases List.mem_singleton.mp q
    omega
theorem shaped_front {f : Int → Int} {us vs : List Int} : (shapedM f (us ++ vs)).take us.length = shapedM f us := by
  refine snoc_ind (P := fun vs => (shapedM f (us ++ vs)).take us.length = shapedM f us) ?_ (fun l x ih => ?_) vs
  · show (shapedM f (us ++ [])).take us.length = shapedM f us
    rw [List.append_nil, ← shaped_length (f := f) us, List.take_length]
  · show (shapedM f (us ++ (l ++ [x]))).take us.length = shapedM f us
    rw [← List.append_assoc]
    unfold shapedM at ih ⊢
    rw [shG_push]
    unfold shS
    rw [List.take_append_of_le_length (by rw [shG_length, List.length_append]; omega)]
    exact ih
theorem freeK_congr {f g : Int → Int} {e : List Int} : ∀ {n : Nat}, (∀ t : Int, 1 ≤ t → t ≤ (n : Int) + 1 → f t = g t) → freeK f e n = freeK g e n
  | 0, h => h 1 (by omega) (by omega)
  | n + 1, h => by
    unfold freeK
    rw [freeK_congr (n := n) fun t a b => h t a (by omega), h ((n : Int) + 2) (by omega) (by omega)]
theorem shG_congr {f g : Int → Int} {us : List Int} (h : ∀ t : Int, 1 ≤ t → t ≤ us.length → f t = g t) : shG f us = shG g us := by
  revert h
  refine snoc_ind (P := fun us => (∀ t : Int, 1 ≤ t → t ≤ us.length → f t = g t) → shG f us = shG g us) (fun _ => rfl) (fun l x ih h => ?_) us
  rw [List.length_append, List.length_singleton] at h
  rw [shG_push, shG_push, ih fun t a b => h t a (by omega)]
  unfold shS freeM
  rw [freeK_congr fun t a b => h t a (by rw [shG_length] at b; omega)]
/-- a curve that rises where it is written rises -/
theorem up_cv {vs : List Int} {p g : Int} (hp : 0 < p) (hpn : p ≤ vs.length) (h0 : 0 ≤ vs.getD 0 0) (up : ∀ i, i + 1 < vs.length → vs.getD i 0 ≤ vs.getD (i + 1) 0) (last : vs.getD (vs.length - 1) 0 ≤ vs.getD (vs.length - p.toNat) 0 + g) : Up (cvAt vs p g) := by
  refine ⟨by rw [cvAt_in (by decide) (by omega)]; exact h0, fun k => ?_⟩
  induction k using Nat.strongRecOn with
  | ind k ih =>
    intro h1
    by_cases c : k < vs.length
    · rw [cvAt_in (by omega) (by omega), cvAt_in (by omega) (by omega), show ((k : Int) - 1).toNat = k - 1 by omega, show ((k : Int) + 1 - 1).toNat = k - 1 + 1 by omega]
      exact up (k - 1) (by omega)
    · by_cases d : k = vs.length
      · rw [cvAt_back (t := (k : Int) + 1) hp hpn (by omega), cvAt_in (by omega) (by omega), cvAt_in (by omega) (by omega), show ((k : Int) - 1).toNat = vs.length - 1 by omega, show ((k : Int) + 1 - p - 1).toNat = vs.length - p.toNat by omega]
        exact last
      · rw [cvAt_back (t := (k : Int) + 1) hp hpn (by omega), cvAt_back (t := (k : Int)) hp hpn (by omega)]
        have := ih (k - p.toNat) (by omega) (by omega)
        rw [show ((k - p.toNat : Nat) : Int) = (k : Int) - p by omega] at this
        rw [show (k : Int) + 1 - p = (k : Int) - p + 1 by omega]
        omega
/-- no pair of lengths up to n shows a break -/
def goodB (f : Int → Int) (n : Nat) : Bool := (List.range n).all fun a => (List.range (a + 1)).all fun b => decide (f ((a : Int) + 1 + ((b : Int) + 1)) ≤ f ((a : Int) + 1) + f ((b : Int) + 1))
theorem good_at {f : Int → Int} {n : Nat} (h : goodB f n = true) {a b : Int} (h1 : 1 ≤ b) (h2 : b ≤ a) (h3 : a ≤ n) : f (a + b) ≤ f a + f b := by
  unfold goodB at h
  rw [List.all_eq_true] at h
  have x := h (a - 1).toNat (List.mem_range.mpr (by omega))
  rw [List.all_eq_true] at x
  have y := of_decide_eq_true (x (b - 1).toNat (List.mem_range.mpr (by omega)))
  rw [show (((a - 1).toNat : Nat) : Int) + 1 = a by omega, show (((b - 1).toNat : Nat) : Int) + 1 = b by omega] at y
  exact y
end VM

/-! shaped is the greatest; curves that are good at all lengths; greedy records; plain Lean. -/
namespace VM
/-- no unit of vs enters ahead of its coming in us -/
def Behind (us vs : List Int) : Prop := vs.length = us.length ∧ ∀ i : Nat, i ≤ us.length → pre vs i ≤ pre us i
theorem pre_take {us : List Int} {i : Nat} : pre us i = (us.take i).sum := by
  unfold pre; rw [Int.toNat_natCast]
theorem pre_len {us : List Int} {i : Int} (h : (us.length : Int) ≤ i) : pre us i = us.sum := by
  unfold pre; rw [List.take_of_length_le (by omega)]
theorem tl_pre {us : List Int} {k : Nat} (h : k ≤ us.length) : tl us k = us.sum - pre us ((us.length : Int) - k) := by
  unfold tl win
  rw [show (us.length : Int) - (k : Int) + (k : Int) = us.length by omega, pre_all]
/-- free is one of the windows -/
theorem freeK_some {f : Int → Int} {us : List Int} : ∀ n : Nat, ∃ k : Nat, k ≤ n ∧ freeK f us n = f ((k : Int) + 1) - tl us k
  | 0 => ⟨0, Nat.le_refl _, by rw [tl_zero]; show f 1 = f ((0 : Int) + 1) - 0; rw [Int.zero_add]; omega⟩
  | n + 1 => by
    obtain ⟨k, hk, e⟩ := freeK_some (f := f) (us := us) n
    unfold freeK
    by_cases c : freeK f us n ≤ f ((n : Int) + 2) - tl us (n + 1)
    · exact ⟨k, by omega, by omega⟩
    · refine ⟨n + 1, Nat.le_refl _, ?_⟩
      rw [show ((n + 1 : Nat) : Int) + 1 = (n : Int) + 2 by omega]
      omega
theorem shG_front {f : Int → Int} {us : List Int} {i : Nat} (h : i ≤ us.length) : (shG f (us.take i)).1 = (shapedM f us).take i := by
  have e : us.take i ++ us.drop i = us := List.take_append_drop i us
  have s := shaped_front (f := f) (us := us.take i) (vs := us.drop i)
  rw [e, List.length_take, Nat.min_eq_left h] at s
  exact s.symm
theorem shG_sum {f : Int → Int} (us : List Int) : (shG f us).1.sum + (shG f us).2 = us.sum := by
  refine snoc_ind (P := fun us => (shG f us).1.sum + (shG f us).2 = us.sum) rfl (fun l u ih => ?_) us
  show (shG f (l ++ [u])).1.sum + (shG f (l ++ [u])).2 = (l ++ [u]).sum
  rw [shG_push, sum_snoc]
  unfold shS
  simp only [sum_snoc]
  omega
/-- the units so far of the shaped record -/
theorem shaped_pre {f : Int → Int} {us : List Int} {i : Nat} (h : i ≤ us.length) : pre (shapedM f us) i = (shG f (us.take i)).1.sum := by
  rw [shG_front h, pre_take]
theorem shaped_greatest {f : Int → Int} {us vs : List Int} (B : Behind us vs) (K : Kept f vs) : ∀ i : Nat, i ≤ us.length → pre vs i ≤ pre (shapedM f us) i := by
  intro i
  induction i using Nat.strongRecOn with
  | ind i ih =>
    intro hi
    match i with
    | 0 => rw [show ((0 : Nat) : Int) = 0 from rfl, pre_zero, pre_zero]; exact Int.le_refl _
    | i + 1 =>
      have st := shG_take (f := f) (us := us) (i := i) (by omega)
      have sm := shG_sum (f := f) (us.take i)
      have p1 := shaped_pre (f := f) (us := us) (i := i + 1) hi
      have p0 := shaped_pre (f := f) (us := us) (i := i) (by omega)
      have lg : (shG f (us.take i)).1.length = i := by rw [shG_length, List.length_take]; omega
      rw [p1, st]
      have us1 := pre_step (us := us) (i := i) (by omega)
      have ut : (us.take i).sum = pre us i := pre_take.symm
      have bi := B.2 (i + 1) hi
      rw [show ((i + 1 : Nat) : Int) = (i : Int) + 1 by omega] at bi ⊢
      unfold shS
      simp only [sum_snoc]
      by_cases c : (shG f (us.take i)).2 + us.getD i 0 ≤ freeM f (shG f (us.take i)).1
      · omega
      · obtain ⟨k, hk, e⟩ := freeK_some (f := f) (us := (shG f (us.take i)).1) (shG f (us.take i)).1.length
        rw [lg] at hk
        have tp := tl_pre (us := (shG f (us.take i)).1) (k := k) (by omega)
        rw [lg] at tp
        have pk : pre (shG f (us.take i)).1 ((i : Int) - k) = pre (shapedM f us) ((i - k : Nat) : Int) := by
          rw [shG_front (by omega), show (i : Int) - (k : Int) = ((i - k : Nat) : Int) by omega, pre_take, pre_take, List.take_take, Nat.min_eq_left (by omega)]
        have q := ih (i - k) (by omega) (by omega)
        have w := K (i - k) (k + 1) (by omega) (by rw [B.1]; omega)
        unfold win at w
        rw [show ((i - k : Nat) : Int) + ((k + 1 : Nat) : Int) = (i : Int) + 1 by omega, show ((k + 1 : Nat) : Int) = (k : Int) + 1 by omega] at w
        have fm : freeM f (shG f (us.take i)).1 = f ((k : Int) + 1) - tl (shG f (us.take i)).1 k := e
        omega
/-- the shaped record is behind what comes -/
theorem shaped_behind {f : Int → Int} {us : List Int} (U : Up f) (h : ∀ u ∈ us, 0 ≤ u) : Behind us (shapedM f us) := by
  refine ⟨shaped_length us, fun i hi => ?_⟩
  have a := shG_bound (f := f) U (us := us.take i) fun u hu => h u (List.mem_of_mem_take hu)
  rw [shaped_pre hi, pre_take]
  omega
/-- good at the lengths of the form: good at all lengths -/
theorem good_all {f : Int → Int} {n p g : Int} (R : Rep f n p g) (hp : 0 < p) (hpn : p ≤ n) (h0 : f 0 = 0) (G : ∀ a b : Int, 1 ≤ b → b ≤ a → a ≤ n → f (a + b) ≤ f a + f b) : ∀ a b : Int, 0 ≤ a → 0 ≤ b → f (a + b) ≤ f a + f b := by
  have half : ∀ (k : Nat) (a b : Int), 0 ≤ b → b ≤ a → a + b = k → f (a + b) ≤ f a + f b := by
    intro k
    induction k using Nat.strongRecOn with
    | ind k ih =>
      intro a b hb hba e
      by_cases z : b = 0
      · subst z; rw [h0, Int.add_zero]; omega
      · by_cases c : a ≤ n
        · exact G a b (by omega) hba c
        · have r1 := R a (by omega)
          have r2 := R (a + b) (by omega)
          rw [show a + b - p = a - p + b by omega] at r2
          have : f (a - p + b) ≤ f (a - p) + f b := by
            by_cases d : b ≤ a - p
            · exact ih (a - p + b).toNat (by omega) (a - p) b hb d (by omega)
            · have := ih (a - p + b).toNat (by omega) b (a - p) (by omega) (by omega) (by omega)
              rw [show b + (a - p) = a - p + b by omega] at this
              omega
          omega
  intro a b ha hb
  by_cases c : b ≤ a
  · exact half (a + b).toNat a b hb c (by omega)
  · have := half (a + b).toNat b a ha (by omega) (by omega)
    rw [show b + a = a + b by omega] at this
    omega
/-- the greedy record of n ticks -/
def greedyM (f : Int → Int) (n : Nat) : List Int := (List.range n).map fun t : Nat => f ((t : Int) + 1) - f t
theorem greedy_length {f : Int → Int} {n : Nat} : (greedyM f n).length = n := by simp [greedyM]
theorem greedy_succ {f : Int → Int} {n : Nat} : greedyM f (n + 1) = greedyM f n ++ [f ((n : Int) + 1) - f n] := by
  unfold greedyM; rw [List.range_succ, List.map_append]; rfl
theorem greedy_sum {f : Int → Int} (h0 : f 0 = 0) : ∀ n : Nat, (greedyM f n).sum = f n
  | 0 => by show (0 : Int) = f 0; omega
  | n + 1 => by
    rw [greedy_succ, sum_snoc, greedy_sum h0 n, show ((n + 1 : Nat) : Int) = (n : Int) + 1 by omega]
    omega
theorem greedy_take {f : Int → Int} {n i : Nat} (h : i ≤ n) : (greedyM f n).take i = greedyM f i := by
  unfold greedyM; rw [← List.map_take, List.take_range, Nat.min_eq_left h]
theorem greedy_pre {f : Int → Int} (h0 : f 0 = 0) {n i : Nat} (h : i ≤ n) : pre (greedyM f n) i = f i := by
  rw [pre_take, greedy_take h, greedy_sum h0]
theorem greedy_kept {f : Int → Int} (h0 : f 0 = 0) (G : ∀ a b : Int, 0 ≤ a → 0 ≤ b → f (a + b) ≤ f a + f b) (n : Nat) : Kept f (greedyM f n) := by
  intro s k h1 h2
  rw [greedy_length] at h2
  unfold win
  rw [show (s : Int) + (k : Int) = ((s + k : Nat) : Int) by omega, greedy_pre h0 h2, greedy_pre h0 (by omega)]
  have := G s k (by omega) (by omega)
  rw [show ((s + k : Nat) : Int) = (s : Int) + (k : Int) by omega]
  omega
/-- ahead of every record that keeps the curve -/
theorem greedy_ahead {f : Int → Int} (h0 : f 0 = 0) {vs : List Int} (K : Kept f vs) {n i : Nat} (hn : vs.length = n) (hi : i ≤ n) : pre vs i ≤ pre (greedyM f n) i := by
  rw [greedy_pre h0 hi]
  by_cases z : i = 0
  · subst z
    rw [show ((0 : Nat) : Int) = 0 from rfl, pre_zero, h0]
    exact Int.le_refl _
  · have := K 0 i (by omega) (by omega)
    unfold win at this
    rw [show ((0 : Nat) : Int) + (i : Int) = i by omega, show ((0 : Nat) : Int) = 0 from rfl, pre_zero] at this
    omega
end VM

/-! What repr may be asked of: shown, not deep, not long. -/
namespace VR
open PySem
structure Sz (k L : Nat) (d : PyData) : Prop where
  sh : d.showable = true
  dp : d.depth ≤ k
  ln : d.shown.length ≤ L
theorem Sz.mono {k L k' L' : Nat} {d : PyData} (h : Sz k L d) (a : k ≤ k') (b : L ≤ L') : Sz k' L' d := ⟨h.sh, Nat.le_trans h.dp a, Nat.le_trans h.ln b⟩
theorem Sz.none : Sz 0 5 .none := ⟨rfl, Nat.zero_le _, by decide⟩
theorem Sz.bool (b : Bool) : Sz 0 5 (.bool b) := ⟨rfl, Nat.zero_le _, by cases b <;> decide⟩
theorem log_small {n : Nat} (h : n < 10 ^ 100) : n.log2 < 1920 := by
  by_cases z : n = 0
  · subst z; decide
  · exact (Nat.log2_lt z).mpr (Nat.lt_trans h (by decide +kernel))
theorem Sz.int {i : Int} (h : i.natAbs < 10 ^ 100) : Sz 0 101 (.int i) := by
  refine ⟨by simp only [PyData.showable]; exact decide_eq_true (log_small h), Nat.zero_le _, ?_⟩
  have e := int_text_length_le10 (k := 100) (by decide) h
  show (Str.ofString (toString i)).length ≤ 101
  rw [ofString_length]; exact e
theorem all_show {k L : Nat} : ∀ {ds : List PyData}, (∀ d ∈ ds, Sz k L d) → PyData.showableAll ds = true
  | [], _ => rfl
  | d :: ds, h => by
    simp only [PyData.showableAll]
    rw [(h d List.mem_cons_self).sh, all_show fun e he => h e (List.mem_cons_of_mem _ he)]
    rfl
theorem all_depth {k L : Nat} : ∀ {ds : List PyData}, (∀ d ∈ ds, Sz k L d) → PyData.depthAll ds ≤ k
  | [], _ => Nat.zero_le _
  | d :: ds, h => by
    simp only [PyData.depthAll]
    exact Nat.max_le.mpr ⟨(h d List.mem_cons_self).dp, all_depth fun e he => h e (List.mem_cons_of_mem _ he)⟩
theorem all_len {k L : Nat} : ∀ {ds : List PyData}, (∀ d ∈ ds, Sz k L d) → ((PyData.shownAll ds).map (·.length)).sum ≤ L * ds.length ∧ (PyData.shownAll ds).length = ds.length
  | [], _ => ⟨Nat.zero_le _, rfl⟩
  | d :: ds, h => by
    have a := (h d List.mem_cons_self).ln
    obtain ⟨b, c⟩ := all_len (ds := ds) fun e he => h e (List.mem_cons_of_mem _ he)
    simp only [PyData.shownAll, List.map_cons, List.sum_cons, List.length_cons]
    refine ⟨?_, by omega⟩
    rw [Nat.mul_add, Nat.mul_one]
    omega
theorem Sz.list {k L n : Nat} {ds : List PyData} (h : ∀ d ∈ ds, Sz k L d) (hn : ds.length ≤ n) : Sz (k + 1) ((L + 2) * n + 3) (.list ds) := by
  refine ⟨by simp only [PyData.showable]; exact all_show h, by simp only [PyData.depth]; have := all_depth h; omega, ?_⟩
  obtain ⟨a, b⟩ := all_len h
  have c := listText_len_le (PyData.shownAll ds)
  simp only [PyData.shown]
  rw [b] at c
  have m : (L + 2) * ds.length ≤ (L + 2) * n := Nat.mul_le_mul_left _ hn
  rw [Nat.add_mul] at m
  omega
theorem Sz.tuple {k L n : Nat} {ds : List PyData} (h : ∀ d ∈ ds, Sz k L d) (hn : ds.length ≤ n) : Sz (k + 1) ((L + 2) * n + 3) (.tuple ds) := by
  refine ⟨by simp only [PyData.showable]; exact all_show h, by simp only [PyData.depth]; have := all_depth h; omega, ?_⟩
  obtain ⟨a, b⟩ := all_len h
  have c := tupleText_len_le (PyData.shownAll ds)
  simp only [PyData.shown]
  rw [b] at c
  have m : (L + 2) * ds.length ≤ (L + 2) * n := Nat.mul_le_mul_left _ hn
  rw [Nat.add_mul] at m
  omega
theorem Sz.ints {n : Nat} {us : List Int} (h : ∀ u ∈ us, u.natAbs < 10 ^ 100) (hn : us.length ≤ n) : Sz 1 (103 * n + 3) (.list (us.map PyData.int)) := by
  refine Sz.list (k := 0) (L := 101) (fun d hd => ?_) (by rw [List.length_map]; exact hn)
  obtain ⟨u, hu, rfl⟩ := List.mem_map.mp hd
  exact .int (h u hu)
end VR

/-! for i, x in enumerate(xs, start=k), and over reversed(xs). -/
namespace VE
open PySem PySem.Spec PyProof.Rows L2
section
variable {prog : Program} {w : World} {A : Around} {E : Value → Shared → Prop} {s : Shared}
theorem next_rev {it l : Addr} {i : Nat} {items : Array Value} {x : Value} {Q : Value → Shared → Prop} (hit : s.heap.IsRevIter it l (i : Int)) (hl : s.heap.IsList l items)
    (hx : items[i]? = some x) (hQ : ∀ h', h'.IsRevIter it l ((i : Int) - 1) → Heap.SameBut it s.heap h' → Q x { s with heap := h' }) :
    wpAny (model prog w) A (Builtin.SmallTypes.nextOf (.ref it)) Q E s := by
  obtain ⟨ob, g1, g2, g3⟩ := id hit
  obtain ⟨ol, k1, _, nl, k2⟩ := hl
  have slot := F.slot_lri_next
  unfold Builtin.SmallTypes.nextOf
  refine wpAny_bind (wpAny_callSpecial?_slot (name := Str.ofString "__next__") hit.typeIs slot (wpAny_call_entry slot hit.typeIs F.entry_lri_next ?_ (F.args_lri_next_1 _)))
  unfold Builtin.«list_reverseiterator.__next__» ; refine wpAny_bind (wpAny_of_eq (a := (Value.ref it, [])) rfl ?_)
  try dsimp only
  refine wpAny_bind (wpAny_field g1 g3 (x := rawInt (i : Int)) rfl ?_)
  show wpAny _ A.in1 (if (i : Int) < 0 then _ else _) _ _ s
  rw [if_neg (show ¬ (i : Int) < 0 by omega)]
  show wpAny _ A.in1 (field (.ref it) 0 >>= _) _ _ s
  refine wpAny_bind (wpAny_field g1 g3 (x := .ref l) rfl ?_)
  show wpAny _ A.in1 (seqItems? (.ref l) >>= _) _ _ s
  refine wpAny_bind (wpAny_seqItems k1 k2 ?_)
  simp only [Int.toNat_natCast, hx]
  refine wpAny_bind (wpAny_setField g1 g3 (by simp) ?_)
  have here : (s.heap.update it fun o => o.mapFields fun vs => vs.setIfInBounds 1 (rawInt ((i : Int) - 1))).IsRevIter it l ((i : Int) - 1) := by
    refine ⟨_, Heap.get?_update_self _ g1 (Obj.isFreed_of_fields (Obj.data_mapFields g3 _)), (Obj.cls_mapFields ..).trans g2, ?_⟩
    rw [Obj.data_mapFields g3]
    simp
  first
  | exact wpAny_pure ⟨x, rfl, wpAny_pure (hQ _ here (Heap.SameBut.update ..))⟩
  | exact wpAny_bind (wpAny_pure (wpAny_pure ⟨x, rfl, wpAny_pure (hQ _ here (Heap.SameBut.update ..))⟩))
theorem next_rev_end {it l : Addr} {Q : Value → Shared → Prop} (hh : A.handled = none) (hit : s.heap.IsRevIter it l (-1))
    (hE : ∀ h' e, Heap.ExtBut it s.heap h' → (∃ o, h'.get? e = some o ∧ o.cls = .type "StopIteration") → E (.ref e) { s with heap := h' }) :
    wpAny (model prog w) A (Builtin.SmallTypes.nextOf (.ref it)) Q E s := by
  obtain ⟨ob, g1, g2, g3⟩ := id hit
  have slot := F.slot_lri_next
  unfold Builtin.SmallTypes.nextOf
  refine wpAny_bind (wpAny_callSpecial?_slot (name := Str.ofString "__next__") hit.typeIs slot (wpAny_call_entry slot hit.typeIs F.entry_lri_next ?_ (F.args_lri_next_1 _)))
  unfold Builtin.«list_reverseiterator.__next__» ; refine wpAny_bind (wpAny_of_eq (a := (Value.ref it, [])) rfl ?_)
  try dsimp only
  refine wpAny_bind (wpAny_field g1 g3 (x := rawInt (-1)) rfl ?_)
  show wpAny _ A.in1 (if (-1 : Int) < 0 then _ else _) _ _ s
  rw [if_pos (show (-1 : Int) < 0 by decide)]
  refine wpAny_bind (wpAny_rule ?_)
  first
  | show wpAny _ A.in1 (newExc (.type "StopIteration") [] >>= _) _ _ _
  | (refine wpAny_bind ?_; show wpAny _ A.in1 (newExc (.type "StopIteration") [] >>= _) _ _ _)
  refine wpAny_bind ?_
  simp only [newExc, newTuple]
  refine wpAny_bind (wpAny_newObj_type ?_ (by size_fits)) ; refine wpAny_bind (m := firstArgMember _ _) (wpAny_of_eq (a := Value.none) (by first | rfl | (simp only [firstArgMember]; rfl)) ?_)
  refine wpAny_newObj_type ?_ (by size_fits)
  simp only [raiseNew]
  refine wpAny_bind (wpAny_handled ?_)
  first | rw [show A.in1.handled = none from hh] | rw [hh]
  refine wpAny_bind (wpAny_pure (wpAny_throw ?_))
  exact hE _ _ (((Heap.ExtBut.refl _ _).push _).push _) ⟨_, Heap.get?_push_size _ rfl, rfl⟩
end
theorem draws_rev {prog : Program} {w : World} {A : Around} (hh : A.handled = none) (it l : Addr) (hne : l ≠ it) (items : Array Value) :
    Draws prog w A it [it, l] items.size (fun i v => items[items.size - 1 - i]? = some v)
      (fun i h => i ≤ items.size ∧ h.IsRevIter it l ((items.size : Int) - 1 - (i : Int)) ∧ h.IsList l items) where
  live := fun _ _ st => let ⟨o, ho, _⟩ := st.2.1; ⟨o, ho⟩
  frame := fun _ _ _ st k => ⟨st.1, st.2.1.at fun o e => k it (by simp) o e, st.2.2.at fun o e => k l (by simp) o e⟩
  item := fun i s Q E hi st hQ => by
    obtain ⟨_, hit, hl⟩ := st
    rw [show (items.size : Int) - 1 - (i : Int) = ((items.size - 1 - i : Nat) : Int) by omega] at hit
    have hx : items[items.size - 1 - i]? = some (items[items.size - 1 - i]'(by omega)) := Array.getElem?_eq_getElem (by omega)
    refine next_rev hit hl hx fun h' hit' sb => hQ _ h' s.toks hx ⟨hi, ?_, hl.extBut sb.extBut hne⟩ sb
    rw [show (items.size : Int) - 1 - ((i + 1 : Nat) : Int) = ((items.size - 1 - i : Nat) : Int) - 1 by omega]
    exact hit'
  done := fun s Q E st hE => by
    obtain ⟨_, hit, _⟩ := st
    rw [show (items.size : Int) - 1 - (items.size : Int) = -1 by omega] at hit
    exact next_rev_end hh hit hE

/-- what may be iterated as it is: iter(v) is v -/
structure Self (v : Value) (H : Heap → Prop) : Prop where
  iter : ∀ (prog : Program) (w : World) (A : Around) (E : Value → Shared → Prop) (s : Shared) (Q : Value → Shared → Prop), H s.heap → Q v s → wpAny (model prog w) A (pyIter v) Q E s
theorem self_rev (it l : Addr) (i : Int) : Self (.ref it) fun h => h.IsRevIter it l i := ⟨fun _ _ _ _ _ _ h q => wpAny_pyIter_revIter h q⟩
set_option maxHeartbeats 4000000 in
theorem new_enum {v : Value} {H : Heap → Prop} (B : Self v H) (k : Int) (t : Tok) (hfit : Builtin.SmallTypes.fitsIndex k = true) :
    Meets (Builtin.«enumerate.__new__» ⟨[.type "enumerate", v], [(Str.ofString "start", .int k t)]⟩) (fun _ R s => H s.heap ∧
      R (.ok (.ret (.ref s.heap.objs.size))) { s with heap := s.heap.push { cls := .type "enumerate", data := .fields #[.none, .bool false, v, rawInt k, .none, .none] } }) := by
  refine .of_wp fun prog w A R s h => ?_
  obtain ⟨hp, g, d, tk, os⟩ := s
  obtain ⟨h1, h⟩ := h
  have hsub := sub_enumerate
  have hnf : (!Builtin.SmallTypes.fitsIndex k) = false := by rw [hfit] ; rfl
  have q1 : ∀ {A' : Around} {E : Value → Shared → Prop} {Q : Value → Shared → Prop}, Q v ⟨hp, g, d, tk, os⟩ → wpAny (model prog w) A' (pyIter v) Q E ⟨hp, g, d, tk, os⟩ := fun q => B.iter prog w _ _ _ _ h1 q
  have a1 : (Str.ofString "start" == ("start" : Str)) = true := by decide +kernel
  have a2 : (Str.ofString "start" != ("start" : Str)) = false := by decide +kernel
  have a3 : (Str.ofString "start" != ("iterable" : Str)) = true := by decide +kernel
  have a4 : (("start" : Str) == Str.ofString "start") = true := by decide +kernel
  have a5 : (("iterable" : Str) == Str.ofString "start") = false := by decide +kernel
  wp_walk using q1
  refine wpAny_stack_any fun st => wpAny_pure ?_
  split
  · rename_i c _ _ _ _ _
    cases (c == Value.type "enumerate")
    · wp_walk using q1
      exact ⟨_, rfl, h⟩
    · wp_walk using q1
      exact ⟨_, rfl, h⟩
  · wp_walk using q1
    exact ⟨_, rfl, h⟩
theorem call_enum {prog : Program} {w : World} {A : Around} {E : Value → Shared → Prop} {s : Shared} {v : Value} {H : Heap → Prop} {k : Int} {t : Tok} {Q : Value → Shared → Prop} (B : Self v H) (h1 : H s.heap)
    (b0 : -(2 ^ 63) ≤ k) (b1 : k < 2 ^ 63) (h : Q (.ref s.heap.objs.size) { s with heap := s.heap.push { cls := .type "enumerate", data := .fields #[.none, .bool false, v, rawInt k, .none, .none] } }) :
    wpAny (model prog w) A (call (.type "enumerate") [v] [(Str.ofString "start", .int k t)]) Q E s := by
  refine callType_newKw F.called_enumerate (by decide) (F.typeCall_enumerate_start _ _) (F.newCall_enumerate_start _ _) (fun obj => F.args_object_init_start obj _ _) F.entry_enumerate_new (new_enum B k t (fits_start b0 b1)) ⟨h1, ?_⟩
  exact ⟨⟨_, Heap.get?_push_size _ rfl, rfl⟩, h⟩
end VE
namespace VE
open PySem PySem.Spec PyProof.Rows L2
/-- k, k + 1, .. with the list at a (n items, which the loop leaves there) from its end, in new pairs -/
def Iter' (K : PySem.W.Frag) (a : Addr) (n : Nat) (k : Int) : It :=
  ⟨fun i H => i < n ∧ ∃ xs : List V, SqL K H a xs ∧ xs.length = n, fun i H v H' => ∃ T x, v = .ref T ∧ H T = none ∧ H' = upd H T (.tup [.int (k + (i : Nat)), x]) ∧ ∀ xs, SqL K H a xs → xs[n - 1 - i]? = some x,
    fun i H => n ≤ i ∧ ∃ xs : List V, SqL K H a xs ∧ xs.length = n⟩
theorem turn_enumRev {P : Program} {w : World} {K : PySem.W.Frag} {elts : List Expr} {kk : Nat} {tpos : Pos} (a e it : Addr) (n : Nat) (k : Int) (hai : a ≠ it) (hei : e ≠ it) (hea : e ≠ a) :
    Turn P w K (.Tuple elts kk tpos) (Iter' K a n k) [e, it] e (fun i h => (∃ old, IsEnum h e it (k + (i : Nat)) old) ∧ i ≤ n ∧ h.IsRevIter it a ((n : Int) - 1 - (i : Nat))) where
  mem := by simp
  obj := fun i h st b hb => by
    obtain ⟨⟨old, he⟩, _, o, ho, hc, hd⟩ := st
    have e' : b = e ∨ b = it := by simpa using hb
    rcases e' with z | z
    · rw [z]; exact ⟨_, he, fun v q => nomatch q⟩
    · rw [z]; exact ⟨o, ho, fun v q => by rw [hd] at q; cases q⟩
  keep := fun i h h' st kp => let ⟨⟨old, he⟩, hn, hi⟩ := st; ⟨⟨old, kp e (by simp) _ he⟩, hn, hi.at fun o q => kp it (by simp) o q⟩
  item := by
    intro X hP hw hK hc i pins s σ H E I hf st hg
    subst hP hw hK
    obtain ⟨⟨old, he⟩, hin, hit⟩ := st
    obtain ⟨hlt, xs, hq, hl⟩ := hg
    obtain ⟨its, rv, p, hz⟩ := I.list hq
    have hn : its.toArray.size = n := by rw [List.size_toArray, ← rv.length]; exact hl
    have hh : X.A.in1.handled = none := I.ok.hd hc
    have hel : e < s.heap.objs.size := Heap.lt_size he
    have hil : it < s.heap.objs.size := by obtain ⟨_, q, _⟩ := hit; exact Heap.lt_size q
    have D := draws_rev (prog := X.prog) (w := X.w) (A := X.A.in1) hh it a hai its.toArray
    rw [hn] at D
    refine wpAny_pyNext_enum_itemC D he ⟨hin, hit, p.isList⟩ hlt hei (by simp [hei, hea]) fun u h' tk hP ho hs' hT hsz hkp => ?_
    obtain ⟨_, hit', _⟩ := hs'
    have hx : xs[n - 1 - i]? = some (xs[n - 1 - i]'(by omega)) := List.getElem?_eq_getElem (by omega)
    obtain ⟨u', hu', ru⟩ := rv.get hx
    have hP' : its[n - 1 - i]? = some u := by simpa using hP
    have euu : u' = u := by rw [hP'] at hu'; exact (Option.some.inj hu').symm
    subst euu
    refine ⟨_, rfl, wpAny_letOwnedTupleGo_enum (s := { s with heap := h', toks := tk + 1 }) ho fun h'' he' sb => ?_⟩
    have hT2 : h''.get? s.heap.objs.size = some { cls := .type "tuple", data := .seq #[.int (k + (i : Nat)) tk, u'] } := (sb.2 _ (Nat.ne_of_gt hel)).trans hT
    have new : ObjOk X.prog X.w (upd H s.heap.objs.size (.tup [.int (k + (i : Nat)), xs[n - 1 - i]'(by omega)])) h'' s.heap.objs.size (.tup [.int (k + (i : Nat)), xs[n - 1 - i]'(by omega)]) :=
      ⟨by show 2 ≤ sizeLine; decide, [.int (k + (i : Nat)) tk, u'], .cons ⟨_, rfl⟩ (.cons ru .nil), ⟨_, hT2, rfl, _, rfl⟩⟩
    have I1 : Inv X pins σ (upd H s.heap.objs.size (.tup [.int (k + (i : Nat)), xs[n - 1 - i]'(by omega)])) { s with heap := h'', toks := tk + 1 } :=
      I.turnedNew (ch := [e, it]) (fun b ob hb q => (sb.2 b (fun z => hb (by simp [z]))).trans (hkp b ob (fun z => hb (by simp [z])) (fun z => hb (by simp [z])) q)) hf (Nat.le_refl _) new
    refine ⟨.ref s.heap.objs.size, _, I1, rfl, ⟨_, _, rfl, I.hok.fresh (Nat.le_refl _), rfl, fun ys hy => by rw [I.list_inj hy hq]; exact hx⟩, ⟨⟨u', ?_⟩, hlt, hit'.at fun o q => (sb.2 it (Ne.symm hei)).trans q⟩, fun b hb => ?_⟩
    · have e1 : k + ((i + 1 : Nat) : Int) = k + (i : Int) + 1 := by omega
      rw [e1]; exact he'
    · have hb' : b < s.heap.objs.size := by
        have e' : b = e ∨ b = it := by simpa using hb
        rcases e' with z | z
        · rw [z]; exact hel
        · rw [z]; exact hil
      rw [upd_ne (Nat.ne_of_lt hb')]
      exact (hf b hb).1
  done := by
    intro X hP hw hK hc i pins s σ H E I hf st hg
    subst hP hw hK
    obtain ⟨⟨old, he⟩, hin, hit⟩ := st
    obtain ⟨hge, xs, hq, hl⟩ := hg
    obtain ⟨its, rv, p, hz⟩ := I.list hq
    have hn : its.toArray.size = n := by rw [List.size_toArray, ← rv.length]; exact hl
    have hh : X.A.in1.handled = none := I.ok.hd hc
    obtain ⟨f0, f1, f2, f3, f4, f5⟩ := hf it (by simp)
    have D := draws_rev (prog := X.prog) (w := X.w) (A := X.A.in1) hh it a hai its.toArray
    rw [hn] at D
    have ei : i = n := by omega
    subst ei
    exact wpAny_pyNext_enum_endD D he ⟨Nat.le_refl _, hit, p.isList⟩ fun h' eb => ⟨rfl, I.turned (t' := s.toks) (fun b o hb q => eb b o hb q) f0 f1 f3 f4 f5⟩
  self := fun A i s Q E st h => let ⟨⟨_, he⟩, _⟩ := st; wpAny_pyIter_enum he h
theorem walk_enumRev {K : PySem.W.Frag} {a : Addr} {xs : List V} {k : Int} : Walk (Iter' K a xs.length k) xs.length (fun H => SqL K H a xs) (YPair (fun i => some (.int (k + (i : Nat)))) (fun i => xs[xs.length - 1 - i]?)) := by
  refine ⟨fun i _ hi q => ⟨hi, xs, q, rfl⟩, fun _ q => ⟨Nat.le_refl _, xs, q, rfl⟩, fun i H v H' _ q y => ?_⟩
  obtain ⟨T, x, h1, h2, h3, h4⟩ := y
  exact ⟨T, .int (k + (i : Nat)), x, h1, h2, h3, rfl, h4 xs q⟩
def iEnumRev (K : PySem.W.Frag) (ta : TA) (k : Int) : TI := fun σ H R => ta σ H fun vs H1 => ∃ (a : Addr) (xs : List V), vs = [.ref a] ∧ SqL K H1 a xs ∧ R (Iter' K a xs.length k) H1
section
variable {M : Model} {A : Around} {E : Value → Shared → Prop} {s : Shared} {env : Env}
theorem callWith_typeKw {pos : Pos} {T : String} {e : Expr} {rest : List Expr} {kws : List Keyword} {Q : Value → Shared → Prop} (hall : (backToKw pos (keywordEach kws env)).all (·.1.isSome) = true)
    (h : wpAny M A (spliced (backTo pos (starEach (e :: rest) env))) (fun vs s₁ => wpAny M A (evalAll ((backToKw pos (keywordEach kws env)).map (·.2)))
      (fun ks s₂ => wpAny M A (call (.type T) vs (((backToKw pos (keywordEach kws env)).filterMap (·.1)).zip ks)) Q E s₂) E s₁) E s)
    (hplain : ((backTo pos (starEach (e :: rest) env)).any (·.1) || (backToKw pos (keywordEach kws env)).any (·.1.isNone)) = false) (he : starEach (e :: rest) env = (false, eval e env) :: starEach rest env) :
    wpAny M A (callWith pos (.type T) [] (backTo pos (starEach (e :: rest) env)) (backToKw pos (keywordEach kws env))) Q E s := by
  unfold callWith
  refine wpAny_bind (wpAny_holding (wpAny_mono (evalArgs_kw2 (f := .type T) (Q := fun a s₁ => wpAny M A (call (.type T) a.pos a.kw) Q E s₁) hall h he) (fun a s₁ h₁ => wpAny_bind (wpAny_standAt ?_)) fun _ _ x => x))
  simp only [hplain]
  refine wpAny_bind (wpAny_pure ?_)
  exact wpAny_bind (wpAny_mono h₁ (fun r s₂ hr => wpAny_bind (wpAny_holding (wpAny_point (wpAny_pure hr)))) fun _ _ x => x)
theorem Call_kws {func : Expr} {args : List Expr} {kws : List Keyword} {pos : Pos} {Q : Value → Shared → Prop}
    (h : wpAny M A (eval func env) (fun f s₁ => wpAny M A (callWith pos f [] (backTo pos (starEach args env)) (backToKw pos (keywordEach kws env))) Q E s₁) E s)
    (he : eval (.Call func args kws pos) env = (do callWith pos (← eval func env) [] (backTo pos (starEach args env)) (backToKw pos (keywordEach kws env))) := by rfl) :
    wpAny M A (eval (.Call func args kws pos) env) Q E s := by
  rw [he]; exact wpAny_bind h
end
theorem pi_enumRev {X : Cx} {e : Expr} {ta : TA} {p p2 pos pos2 kp jp tpos : Pos} {j : Nat} {k : Int} {elts : List Expr} {kk : Nat} (hk0 : -(2 ^ 63) ≤ k) (hk1 : k < 2 ^ 63) (hg : Gl X "enumerate") (hm : X.mg "enumerate" = none) (hg2 : Gl X "reversed") (hm2 : X.mg "reversed" = none) (ha : PA X [e] ta)
    (hs : starEach [e] X.env = [(false, eval e X.env)] := by rfl)
    (hs2 : starEach [.Call (.Name "reversed" p2) [e] [] pos2] X.env = (false, eval (.Call (.Name "reversed" p2) [e] [] pos2) X.env) :: starEach [] X.env := by rfl)
    (hst : ∀ q, (backTo q (starEach [.Call (.Name "reversed" p2) [e] [] pos2] X.env)).any (·.1) = false := by exact fun _ => rfl)
    (hbs : eval (.Call (.Name "reversed" p2) [e] [] pos2) X.env = (do callWith pos2 (← eval (.Name "reversed" p2) X.env) [] (backTo pos2 (starEach [e] X.env)) (backToKw pos2 (keywordEach [] X.env))) := by rfl) :
    PI X (.Tuple elts kk tpos) (.Call (.Name "enumerate" p) [.Call (.Name "reversed" p2) [e] [] pos2] [⟨some "start", .Constant (.int k) j jp, kp⟩] pos) (iEnumRev X.K ta k) := by
  refine ⟨fun pins s σ H R I h => ?_⟩
  refine Call_kws (ld_blt I hg hm boot_enumerate (callWith_typeKw rfl (args_cons ?_ hs2) (by rw [hst]; rfl) hs2))
  refine Call_ (ld_blt I hg2 hm2 PyProof.Rows.boot_reversed (PyProof.Rows.callWith_type1 (thn (ha.run pos2 pins s σ H _ I h) fun us s1 ⟨vs, H1, I1, r1, q1⟩ => ?_) hs rfl)) hbs
  obtain ⟨a, xs, ex, hq, q⟩ := q1
  subst ex
  cases r1 with
  | cons r rr =>
    cases rr
    cases r
    obtain ⟨its, rv, p', hz⟩ := I1.list hq
    have hl := rv.length
    have hal : a < s1.heap.objs.size := by obtain ⟨_, _, z, _⟩ := p'; exact Heap.lt_size z
    refine call_reversed_list p'.isList (args_nil (kws_cons (wpAny_Constant_int (kws_nil ?_))))
    have sz1 : (s1.heap.push { cls := .type "list_reverseiterator", data := .fields #[.ref a, rawInt (((its.toArray.size : Nat) : Int) - 1)] }).objs.size = s1.heap.objs.size + 1 := Heap.size_push ..
    have hit0 : (s1.heap.push { cls := .type "list_reverseiterator", data := .fields #[.ref a, rawInt (((its.toArray.size : Nat) : Int) - 1)] }).IsRevIter s1.heap.objs.size a (((its.toArray.size : Nat) : Int) - 1) := ⟨_, Heap.get?_push_size _ rfl, rfl, rfl⟩
    refine call_enum (self_rev s1.heap.objs.size a (((its.toArray.size : Nat) : Int) - 1)) hit0 hk0 hk1 ?_
    have he : IsEnum ((s1.heap.push { cls := .type "list_reverseiterator", data := .fields #[.ref a, rawInt (((its.toArray.size : Nat) : Int) - 1)] }).push { cls := .type "enumerate", data := .fields #[.none, .bool false, .ref s1.heap.objs.size, rawInt k, .none, .none] }) (s1.heap.objs.size + 1) s1.heap.objs.size k .none := by
      have := Heap.get?_push_size (s1.heap.push { cls := .type "list_reverseiterator", data := .fields #[.ref a, rawInt (((its.toArray.size : Nat) : Int) - 1)] }) (o := { cls := .type "enumerate", data := .fields #[.none, .bool false, .ref s1.heap.objs.size, rawInt k, .none, .none] }) rfl
      rw [sz1] at this; exact this
    show wpAny _ _ (pyIter (.ref (s1.heap.push { cls := .type "list_reverseiterator", data := .fields #[.ref a, rawInt (((its.toArray.size : Nat) : Int) - 1)] }).objs.size)) _ _ _
    rw [sz1]
    refine wpAny_pyIter_enum he ?_
    have hit1 := hit0.at (h' := (s1.heap.push { cls := .type "list_reverseiterator", data := .fields #[.ref a, rawInt (((its.toArray.size : Nat) : Int) - 1)] }).push { cls := .type "enumerate", data := .fields #[.none, .bool false, .ref s1.heap.objs.size, rawInt k, .none, .none] }) fun o q => Heap.get?_push_of_some _ q
    refine ⟨s1.heap.objs.size + 1, [s1.heap.objs.size + 1, s1.heap.objs.size], _, _, H1, rfl, ?_, turn_enumRev a (s1.heap.objs.size + 1) s1.heap.objs.size xs.length k (Nat.ne_of_lt hal) (Nat.succ_ne_self _) (Nat.ne_of_gt (Nat.lt_succ_of_lt hal)), ⟨⟨.none, ?_⟩, Nat.zero_le _, ?_⟩, fun b hb => ?_, q⟩
    · exact I1.kept fun b ob q => Heap.get?_push_of_some _ (Heap.get?_push_of_some _ q)
    · rw [show k + ((0 : Nat) : Int) = k by omega]; exact he
    · rw [show (xs.length : Int) - 1 - ((0 : Nat) : Int) = ((its.toArray.size : Nat) : Int) - 1 by rw [List.size_toArray]; omega]; exact hit1
    · have e' : b = s1.heap.objs.size + 1 ∨ b = s1.heap.objs.size := by simpa using hb
      have hle : s1.heap.objs.size ≤ b := by
        rcases e' with z | z
        · rw [z]; exact Nat.le_add_right _ _
        · rw [z]; exact Nat.le_refl _
      exact I1.fpOk hle (I1.hok.fresh hle)
end VE

/-! A method called with keywords. -/
namespace VP
open PySem PySem.Spec PyProof.Rows L2
/-- o.m(e, .., k = v, ..) -/
def tMethKw (C : Addr) (m : Str) (n j : Nat) (sp : Sp) (gV : List V → List V → List V) (E : XK) (ta : TE) (t tk : TA) : TE := fun σ H Q =>
  ta σ H fun x H1 => ∃ a dx fs, x = .ref a ∧ H1 a = some (.ins C dx fs) ∧ fs.lookup m = none ∧
    t σ H1 fun vs H2 => tk σ H2 fun zs H3 => vs.length = n ∧ zs.length = j ∧ sp (gV (x :: vs) zs) H3 Q E
theorem pe_methKw {X : Cx} {CX : CXT} {k n : Nat} {f C : Addr} {fd : FuncData} {ps ks : List Str} {sp : Sp} {E : XK} {m : Str} {pos apos : Pos} {o e : Expr} {es : List Expr} {kws : List Keyword} {ta : TE} {t tk : TA}
    {g : List Value → List Value → List Value} {gV : List V → List V → List V} {pl : Sem Bool}
    (he : PE X o ta) (c : Cls X.K C) (hm : Meth X.K C m f) (F : FnOk X.prog X.w X.K X.mg X.base CX k f fd ps sp) (hr : Room k X.A)
    (hb : KBn X.K fd ps (n + 1) ks g gV) (hx : Passes CX X E) (ha : PA X (e :: es) t) (hkw : PK X kws tk)
    (hall : (backToKw pos (keywordEach kws X.env)).all (·.1.isSome) = true := by rfl) (hks : (backToKw pos (keywordEach kws X.env)).filterMap (·.1) = ks := by rfl)
    (hst : starEach (e :: es) X.env = (false, eval e X.env) :: starEach es X.env := by rfl)
    (hpl : ((backTo pos (starEach (e :: es) X.env)).any (·.1) || (backToKw pos (keywordEach kws X.env)).any (·.1.isNone)) = false := by rfl)
    (ht : eval (.Call (.Attribute o m apos) (e :: es) kws pos) X.env = (do
      let ov ← eval o X.env
      standAt apos.atName
      let (f, first) ← holding [ov] (getMethod ov m pl)
      callWith pos f first (backTo pos (starEach (e :: es) X.env)) (backToKw pos (keywordEach kws X.env))) := by rfl) :
    PE X (.Call (.Attribute o m apos) (e :: es) kws pos) (tMethKw C m n ks.length sp gV E ta t tk) := by
  constructor
  intro pins s σ H Q I h
  refine PySem.W.methodCall_KW (pl := pl) (thn (he.run pins s σ H _ I h) ?_) ht
  rintro u s1 ⟨x, H1, I1, rx, a, dx, fs, ex, ea, l, q⟩
  subst ex
  obtain rfl : u = Value.ref a := rx
  refine getmeth_ok I1 ea c hm l ?_
  refine PySem.W.callWith_KW (first := [.ref a]) (h₀ := X.base) I.ok.mod.kin hm.kp hall (thn (ha.run pos pins s1 σ H1 _ I1 q) ?_) hpl hst
  rintro us s2 ⟨vs, H2, I2, r, q2⟩
  refine thn (hkw.run pos pins s2 σ H2 _ I2 q2) ?_
  rintro ws s3 ⟨zs, H3, I3, rz, l1, l2, q3⟩
  refine ⟨I3.kIn, ?_⟩
  rw [hks]
  have r1 : Vals (V.ref a :: vs) (Value.ref a :: us) := .cons rfl r
  have rel := hb.rel r1 rz
  have len : (Value.ref a :: us).length = n + 1 := by rw [List.length_cons, ← r.length, l1]
  have bind := hb.to s3 (Value.ref a :: us) ws I3.kIn len (rz.length.symm.trans l2)
  show wpAny _ _ (call (.ref f) (Value.ref a :: us) (ks.zip ws)) _ _ _
  refine wpAny_call (codeAny_mono (F.run X.A X.stack s3 H3 ⟨Value.ref a :: us, ks.zip ws⟩ _ _ Q E hr I3.env0 bind rel q3) ?_)
  intro res s' hq
  match res, hq with
  | .error e, hq => exact hx pins σ H3 s3 e s' I3 hq
  | .ok (.ret u), hq => exact I3.after hq
  | .ok .next, hq => exact False.elim hq
  | .ok .brk, hq => exact False.elim hq
  | .ok .cont, hq => exact False.elim hq
end VP

/-! Own errors over any built-in base, with an __init__ that is walked as a def: made, raised, asked. -/
namespace VX
open PySem PySem.Spec PyProof.Rows L2
/-- a built-in base of errors -/
structure Bs (B newId initId : String) (bmB : List Value) : Prop where
  bs : ExcBaseFacts B newId initId bmB
  st : StoreFacts B bmB "object.__setattr__" "object"
theorem bsV : Bs "ValueError" "ValueError.__new__" "ValueError.__init__" [.type "ValueError", .type "Exception", .type "BaseException", .type "object"] := ⟨F.excBase_ValueError, F.store_ValueError⟩
theorem bsR : Bs "RuntimeError" "RuntimeError.__new__" "RuntimeError.__init__" [.type "RuntimeError", .type "Exception", .type "BaseException", .type "object"] := ⟨F.excBase_RuntimeError, F.store_RuntimeError⟩
theorem bsL : Bs "LookupError" "LookupError.__new__" "LookupError.__init__" [.type "LookupError", .type "Exception", .type "BaseException", .type "object"] := ⟨F.excBase_LookupError, F.store_LookupError⟩
theorem bsA : Bs "ArithmeticError" "ArithmeticError.__new__" "ArithmeticError.__init__" [.type "ArithmeticError", .type "Exception", .type "BaseException", .type "object"] := ⟨F.excBase_ArithmeticError, F.store_ArithmeticError⟩
/-- what the written part says of an own class of errors -/
structure Own (K : PySem.W.Frag) (C : Addr) : Prop where
  base : ∃ B newId initId bmB, Bs B newId initId bmB ∧ PySem.W.excInitIn K C bmB newId = true ∧ PySem.W.excOver K C bmB = true
  hasD : PySem.W.hasDictIn K C = true
  setA : PySem.W.findIn K (.ref C) "__setattr__" = some (some (.builtin "object.__setattr__"))
  isE : PySem.W.subIn K (.ref C) (.type "BaseException") = some true
  isT : PySem.W.typeIn K (.ref C) = some (.type "type")
  keep : PySem.W.keepIn K (.ref C) = true

section
variable {prog : Program} {w : World} {A : Around} {R : Result → Shared → Prop} {hp : Heap} {g : Array GenState} {d : Drawn} {t : Nat} {os : OsState} {K : PySem.W.Frag} {x C : Addr} {f : Str} {tk : Tok} {v : Value} {fv : Array Value}
open Builtin Builtin.ObjectAttr PySem.W PySem.Calls
theorem own_cls (O : Own K C) : ∃ cd, clsIn K C = some cd ∧ cd.hasDict = true := any_some O.hasD
/-- the first field: the dict is laid -/
theorem st_first (O : Own K C) (X : K.In hp) (hx : hp.get? x = some { cls := .ref C, data := .fields fv }) (no : findIn K (.ref C) f = some none)
    (q : ∀ h2 tk2 dj, (∀ b o, b ≠ x → hp.get? b = some o → h2.get? b = some o) → hp.objs.size ≤ dj → dj ≠ x → h2.get? x = some { cls := .ref C, dict := some dj, data := .fields fv } →
      h2.Ns1 dj (fun y => if y = f then some v else none) → R (.ok (.ret .none)) ⟨h2, g, d, tk2, os⟩) :
    codeAny (model prog w) A (.call (.builtin "object.__setattr__") ⟨[.ref x, .str f tk, v], []⟩) R ⟨hp, g, d, t, os⟩ := by
  obtain ⟨B, nI, iI, bmB, S, _, ov⟩ := O.base
  obtain ⟨cd, hc, hh⟩ := own_cls O
  have J : InstAt hp x { cls := .ref C, data := .fields fv } C none := ⟨hx, rfl, rfl, trivial⟩
  have far : x ≠ hp.objs.size := Nat.ne_of_lt (Heap.lt_size hx)
  have look : Looks (model prog w) hp (classData C) cd := looks_clsIn X hc
  refine osa_openX (r := none) S.st X J ov (by unfold takerIn; rw [no]; rfl) fun b => ?_
  obtain ⟨nm, bs, mro, ns, qn, hd, sn, sb, ab, col, del⟩ := cd
  dsimp only at hh
  subst hh
  show wpAny _ _ (storeInOwnDict (.ref x) (.ref C) (.str f tk) f v b) _ _ _
  unfold storeInOwnDict ownDictForStores
  repeat (first | with_reducible refine HandSPX.store_in_new ?_ ?_ | with_reducible refine wpAny_loadPart_at hx ?_ | with_reducible refine look.at ?_ | wp_step)
  · exact ⟨_, #[], _, (Heap.get?_update_ne _ _ _ _ far.symm).trans (Heap.get?_push_at rfl rfl), rfl, fun e he => absurd he (by simp), fun _ => rfl⟩
  · intro h2 tk2 ns2 same
    have there : (hp.push { cls := .type "dict", data := .dict #[] }).get? x = some { cls := .ref C, data := .fields fv } := Heap.get?_push_of_some _ hx
    exact q h2 tk2 hp.objs.size
      (fun b o nb e => (same.2 b (Nat.ne_of_lt (Heap.lt_size e))).trans ((Heap.get?_update_ne _ _ _ _ nb).trans (Heap.get?_push_of_some _ e)))
      (Nat.le_refl _) far.symm ((same.2 x far).trans (Heap.get?_update_self _ there rfl)) ns2
/-- a further field -/
theorem st_more {dj : Addr} {m0 : Str → Option Value} {nl : List Str} (O : Own K C) (X : K.In hp) (hx : hp.get? x = some { cls := .ref C, dict := some dj, data := .fields fv }) (hn : hp.Ns1 dj m0) (hw : Within m0 nl) (hz : nl.length ≤ 1000)
    (no : findIn K (.ref C) f = some none)
    (q : ∀ h2 tk2, (∀ b o, b ≠ dj → hp.get? b = some o → h2.get? b = some o) → h2.Ns1 dj (fun y => if y = f then some v else m0 y) → R (.ok (.ret .none)) ⟨h2, g, d, tk2, os⟩) :
    codeAny (model prog w) A (.call (.builtin "object.__setattr__") ⟨[.ref x, .str f tk, v], []⟩) R ⟨hp, g, d, t, os⟩ := by
  obtain ⟨B, nI, iI, bmB, S, _, ov⟩ := O.base
  obtain ⟨cd, hc, hh⟩ := own_cls O
  obtain ⟨od, _, _, hod, _, _⟩ := hn.count hw
  have J : InstAt hp x { cls := .ref C, dict := some dj, data := .fields fv } C (some od) := ⟨hx, rfl, rfl, hod⟩
  have look : Looks (model prog w) hp (classData C) cd := looks_clsIn X hc
  refine osa_openX (r := none) S.st X J ov (by unfold takerIn; rw [no]; rfl) fun b => ?_
  obtain ⟨nm, bs, mro, ns, qn, hd, sn, sb, ab, col, del⟩ := cd
  dsimp only at hh
  subst hh
  show wpAny _ _ (storeInOwnDict (.ref x) (.ref C) (.str f tk) f v b) _ _ _
  unfold storeInOwnDict ownDictForStores
  repeat (first | with_reducible refine OEX.store_in_old hn hw hz ?_ | with_reducible refine wpAny_loadPart_at hx ?_ | with_reducible refine look.at ?_ | wp_step)
  exact fun h2 tk2 ns2 same => q h2 tk2 (fun b o nb e => (same.2 b nb).trans e) ns2
end

section
variable {X : Cx} {pins : List (Addr × Obj)} {σ : L2.St} {H : Hp} {s : Shared} {a C dj : Addr} {f : Str} {y : V} {u : Value} {fs : List (Str × V)} {Q : Unit → Shared → Prop} {E : Value → Shared → Prop} {A : Around}
/-- self.f = y on a new error -/
theorem put_first (O : Own X.K C) (I : Inv X pins σ H s) (e : H a = some (exo a C none)) (no : PySem.W.findIn X.K (.ref C) f = some none) (ry : RelV y u)
    (k : ∀ dj s2, H dj = none → dj ≠ a → Inv X pins σ (upd (upd H dj (exd dj [(f, y)])) a (exo a C (some dj))) s2 → Q () s2) : wpAny (model X.prog X.w) A (setAttr (.ref a) f u) Q E s := by
  obtain ⟨t1, ho⟩ := exo_at I.hok e
  obtain ⟨hp, g, d, t, os⟩ := s
  refine PySem.W.set_plain I.kIn (od := none) ⟨ho, rfl, rfl, trivial⟩ O.setA (st_first O I.kIn ho no fun h2 tk2 dj kp big nda hx hn => ?_)
  have free : H dj = none := I.hok.fresh big
  have far : ∀ {b : Addr} {o : Obj}, hp.get? b = some o → b ≠ dj := fun q => Nat.ne_of_lt (Nat.lt_of_lt_of_le (Heap.lt_size q) big)
  have nota : ∀ {b : Addr}, H b = none → b ≠ a := fun n z => by rw [z, e] at n; cases n
  have same : ∀ b u0, b ≠ a → H b = some u0 → upd (upd H dj (exd dj [(f, y)])) a (exo a C (some dj)) b = some u0 := fun b u0 nb q => by rw [upd_ne nb, upd_ne (ne_of_none q free)]; exact q
  refine k dj _ free nda (I.un (t' := tk2) ⟨fun b o q n _ _ => kp b o (nota n) q, fun b o q n _ _ => ⟨o.slots, kp b o (nota n) q⟩,
    fun b o q n _ => by rw [upd_ne (nota n), upd_ne (far q)]; exact n,
    fun b o q _ => if z : b = a then ⟨_, z ▸ hx⟩ else ⟨o, kp b o z q⟩,
    fun b xs q => same b _ (at_ne e q exo_tup) q, fun b o v q => same b _ (at_ne e q exo_frz) q, fun b ps q => ⟨#[], by rw [same b _ (at_ne e q exo_tbl) q]; simp⟩⟩ fun b o q => ?_)
  by_cases z : b = a
  · subst z; rw [upd_same] at q; cases q; exact exo_ok hx
  · rw [upd_ne z] at q
    by_cases z2 : b = dj
    · subst z2; rw [upd_same] at q; cases q
      exact exd_ok hn (relO_put (fs := []) ry fun _ => True.intro)
    · rw [upd_ne z2] at q
      refine (I.hok b o q).stay (fun c v hc w => kp c v ?_ w) (fun c hc => same c _ (at_ne e hc exo_own) hc) fun c xs hc => same c _ (at_ne e hc exo_tup) hc
      rcases hc with hc | hc
      · rw [hc]; exact z
      · exact at_ne e hc exo_own
/-- self.f = y, a further field -/
theorem put_more (O : Own X.K C) (I : Inv X pins σ H s) (e : H a = some (exo a C (some dj))) (ed : H dj = some (exd dj fs)) (hl : fs.length ≤ 900) (no : PySem.W.findIn X.K (.ref C) f = some none) (ry : RelV y u)
    (k : ∀ s2, Inv X pins σ (upd H dj (exd dj ((f, y) :: fs))) s2 → Q () s2) : wpAny (model X.prog X.w) A (setAttr (.ref a) f u) Q E s := by
  obtain ⟨t1, ho⟩ := exo_at I.hok e
  obtain ⟨mA, hn, rel⟩ := exd_at I.hok ed
  have hw := within_of rel
  obtain ⟨hp, g, d, t, os⟩ := s
  obtain ⟨od, _, _, hod, _, _⟩ := hn.count hw
  refine PySem.W.set_plain I.kIn (od := some od) ⟨ho, rfl, rfl, hod⟩ O.setA (st_more O I.kIn ho hn hw (by rw [List.length_map]; omega) no fun h2 tk2 kp hn2 => ?_)
  have hd : ∃ o, h2.get? dj = some o := by obtain ⟨o, _, _, z, _⟩ := hn2; exact ⟨o, z⟩
  exact k _ (I.write (t' := tk2) (x := dj) (e := dj) (by rw [ed]; exact True.intro) (.inl rfl) kp hd (exd_ok hn2 (relO_put ry rel)))
end

/-- self.f = e in an error's __init__ -/
def tPut (K : PySem.W.Frag) (f : Str) (to te : TE) : TS := fun D σ H => te σ H fun y H1 => to σ H1 fun x H2 => ∃ a C : Addr, x = .ref a ∧ Own K C ∧ PySem.W.findIn K (.ref C) f = some none ∧
  ((H2 a = some (exo a C none) ∧ ∀ dj, H2 dj = none → dj ≠ a → D.nx σ (upd (upd H2 dj (exd dj [(f, y)])) a (exo a C (some dj)))) ∨
    ∃ (dj : Addr) (fs : List (Str × V)), H2 a = some (exo a C (some dj)) ∧ H2 dj = some (exd dj fs) ∧ fs.length ≤ 900 ∧ D.nx σ (upd H2 dj (exd dj ((f, y) :: fs))))
/-- C(e, ..), by C's own __init__ -/
def tNew (C : Addr) (sp : Sp) (ta : TA) : L2.St → Hp → XK → Prop := fun σ H Q => ta σ H fun vs H1 => vs.length ≤ 1000 ∧ ∀ a, H1 a = none → sp (.ref a :: vs) (upd H1 a (exo a C none))
  (fun v H2 => v = .non ∧ ∃ (d : Addr) (fs : List (Str × V)), H2 a = some (exo a C (some d)) ∧ H2 d = some (exd d fs) ∧ H1 d = none ∧ Q (.ref C) (some d) (upd (del H2 a) d (.xd fs))) (fun _ _ _ => False)
section
variable {X : Cx} {o e : Expr} {es : List Expr} {to te : TE} {ta : TA} {f : Str} {p p' pos : Pos}
theorem ps_put (ho : PE X o to) (he : PE X e te) (hs : swapsWith e (some (.Attribute o f p')) pos.line X.env = pure false := by rfl) : PS X (.Assign [.Attribute o f p'] e pos) (tPut X.K f to te) := by
  refine ⟨fun pins s σ H D I h => plainObj_wpAny_Assign_Attribute (thn (he.run pins s σ H _ I h) ?_) hs⟩
  rintro v s1 ⟨y, H1, I1, r1, q1⟩
  refine thn (ho.run pins s1 σ H1 _ I1 q1) ?_
  rintro u s2 ⟨x, H2, I2, r2, a, C, rfl, O, no, q⟩
  obtain rfl : u = Value.ref a := r2
  rcases q with ⟨ea, q⟩ | ⟨dj, fs, ea, ed, hl, q⟩
  · exact put_first O I2 ea no r1 fun dj s3 n ne J => ⟨σ, _, J, q dj n ne⟩
  · exact put_more O I2 ea ed hl no r1 fun s3 J => ⟨σ, _, J, q⟩
theorem pmk_new {CX : CXT} {x : Str} {C fI : Addr} {k : Nat} {fd : FuncData} {ps : List Str} {sp : Sp} (O : Own X.K C) (iC : PySem.W.findIn X.K (.ref C) "__init__" = some (some (.ref fI))) (tI : PySem.W.typeIn X.K (.ref fI) = some (.type "function"))
    (Fi : FnOk X.prog X.w X.K X.mg X.base CX k fI fd ps sp) (hr : Room (k + 1) X.A) (hb : Binds X.K fd ps []) (hx : Passes CX X (fun _ _ _ => False)) (hg : Gl X x) (hm : X.mg x = some (.ref C)) (ha : PA X (e :: es) ta)
    (hdb : (x == ("__debug__" : Str)) = false := by decide) (he : starEach (e :: es) X.env = (false, eval e X.env) :: starEach es X.env := by rfl) (hpl : (backTo pos (starEach es X.env)).any (·.1) = false := by rfl) :
    PMk X (.Call (.Name x p) (e :: es) [] pos) (tNew C sp ta) := by
  intro pins s σ H Q I h
  obtain ⟨B, nI, iI, bmB, S, ini, _⟩ := O.base
  refine wpAny_Call_Name_kw (ld_glob I hg hm ?_ hdb)
  refine PySem.W.callWith_K (h₀ := X.base) I.ok.mod.kin O.keep (thn (ha.run pos pins s σ H _ I h) ?_) he hpl
  rintro us ⟨hp, g, dr, tk, os⟩ ⟨vs, H1, I1, r1, hz, q1⟩
  refine ⟨I1.kIn, ?_⟩
  show wpAny _ _ (call (.ref C) us) _ _ _
  obtain ⟨nm, N, qn, bs, bm, hdct, sn, sub, ab, col, dd, k0, k1, k2, k3, k5, hC, tail⟩ := PySem.W.excInit_of I1.kIn ini
  have up : hp.objs.size ≤ hp.objs.size + 1 := Nat.le_succ _
  have want := q1 (hp.objs.size + 1) (I1.hok.fresh up)
  have kept : ∀ b o, hp.get? b = some o → ((hp.push (PySem.W.kdv_tup us)).push (HandSPX.excO C hp.objs.size)).get? b = some o := fun b o z => Heap.get?_push_of_some _ (Heap.get?_push_of_some _ z)
  have new : ((hp.push (PySem.W.kdv_tup us)).push (HandSPX.excO C hp.objs.size)).get? (hp.objs.size + 1) = some (HandSPX.excO C hp.objs.size) := by heap_get
  have J : Inv X pins σ (upd H1 (hp.objs.size + 1) (exo (hp.objs.size + 1) C none)) ⟨(hp.push (PySem.W.kdv_tup us)).push (HandSPX.excO C hp.objs.size), g, dr, tk, os⟩ := I1.laid (t' := tk) kept up (exo_ok new)
  have rel : Vals (V.ref (hp.objs.size + 1) :: vs) (Value.ref (hp.objs.size + 1) :: us) := .cons rfl r1
  have len : (Value.ref (hp.objs.size + 1) :: us).length = ps.length := rel.length.symm.trans (Fi.len _ _ _ _ want)
  have bind := hb _ (Value.ref (hp.objs.size + 1) :: us) J.kIn (by rw [List.append_nil]; exact len)
  rw [List.append_nil] at bind
  refine wpAny_call (HandSPX.call_own S.bs tail hC (PySem.W.looks_findIn I1.kIn iC) (fun self => PySem.W.bind_fn I1.kIn self tI) (by rw [← Paired.length r1, sizeLine_eq]; omega)
    (codeAny_mono (Fi.run _ X.stack _ _ ⟨Value.ref (hp.objs.size + 1) :: us, []⟩ _ _ _ (fun _ _ _ => False) (hr.make C us []) (J.env0.make C us []) bind rel want) ?_))
  intro r s' w
  match r, w with
  | .error er, w => exact hx pins σ _ _ er s' J w
  | .ok .next, w => exact False.elim w
  | .ok .brk, w => exact False.elim w
  | .ok .cont, w => exact False.elim w
  | .ok (.ret u), w =>
    obtain ⟨v, H2, os2, bare2, un2, hok2, rv, rfl, d, fs, ea, ed, free, q2⟩ := w
    obtain ⟨h2, g2, d2, t2, os'⟩ := s'
    exact ⟨rv, mk_end (raises_own O.isE O.isT) I1 up kept un2 hok2 os2 bare2 ea ed free q2⟩
end

/-! ### what is asked of a caught error -/
structure Asked (K : PySem.W.Frag) (D : Addr) : Prop where
  cl : (PySem.W.clsIn K D).isSome = true
  ga : PySem.W.findIn K (.ref D) "__getattribute__" = some (some (.builtin "BaseException.__getattribute__"))
  gt : PySem.W.findIn K (.ref D) "__getattr__" = some none
  sb : PySem.W.subIn K (.ref D) (.type "BaseException") = some true
  cc : PySem.W.findIn K (.ref D) "__class__" = some (some (.builtin "object.__class__"))
  gn : PySem.W.specialIn K (.builtin "object.__class__") "__get__" = some (some (.builtin "getset_descriptor.__get__"))
  tk : PySem.W.takesIn K (.builtin "object.__class__") = some true
  mr : PySem.W.mroIn K D (.type "object") = some true
theorem isC {K : PySem.W.Frag} {C : Addr} (h : PySem.W.hasDictIn K C = true) : (PySem.W.clsIn K C).isSome = true := by
  obtain ⟨cd, e, _⟩ := PySem.W.any_some h
  rw [e]
  rfl
/-- isinstance(e, c), isinstance(e, (c, ..)) -/
def rAsk (K : PySem.W.Frag) (a : Addr) (cls : Value) (d : Option Addr) (D : Addr) : List V → Hp → VK → Prop := fun xs H Q => cls = .ref D ∧ ∃ (dj : Addr) (fs : List (Str × V)) (c : V) (b : Bool), d = some dj ∧ H dj = some (.xd fs) ∧ xs = [.ref a, c] ∧
  ((∃ cv, (∀ u, RelV c u → u = cv) ∧ PySem.W.kitOne K (.ref D) cv = some b) ∨ ∃ (tp : Addr) (cs : List V) (us : List Value), c = .ref tp ∧ H tp = some (.tup cs) ∧ (∀ ws, Vals cs ws → ws = us) ∧ PySem.W.kitAny K (.ref D) us = some b) ∧ Q (.bl b) H
theorem call_ask {X : Cx} {a D : Addr} {oe : Obj} {cls : Value} {d : Option Addr} {pn : List (Addr × Obj)} (C : Asked X.K D) (hz : Zc cls d oe) (hf : ∃ vs, oe.data = .fields vs) : CallR (X.suite a ((a, oe) :: pn)) (.builtin "isinstance") (rAsk X.K a cls d D) := by
  intro pins s σ H xs us Q I r h
  obtain ⟨rfl, dj, fs, c, b, rfl, hd, rfl, ask, q⟩ := h
  obtain ⟨u1, u2, rfl, r1, r2⟩ := vals2 r
  obtain rfl : u1 = Value.ref a := r1
  obtain ⟨there, _⟩ := I.pin (a, oe) (List.mem_append.mpr (.inl List.mem_cons_self))
  obtain ⟨vs, hv⟩ := hf
  have low : ObjOk X.prog X.w H s.heap dj (.xd fs) := I.hok dj _ hd
  obtain ⟨mA, ⟨od, es, ep, ho, _⟩, _⟩ := low
  have J : PySem.W.InstAt s.heap a oe D (some od) := ⟨there, hz.1, by unfold PySem.W.notCls; rw [hv] <;> rfl, by rw [hz.2]; exact ho⟩
  have Z := PySem.W.kitx_exc (x := a) (ox := oe) (od := some od) C.cl C.ga C.gt C.sb C.cc C.gn C.tk C.mr
  have fin : ∀ tk : Nat, EP (X.suite a ((a, oe) :: pn)) pins σ Q (.bool b) { s with toks := tk } := fun tk => ⟨.bl b, H, I.kept (t' := tk) fun _ _ z => z, rfl, q⟩
  rcases ask with ⟨cv, hc, e⟩ | ⟨tp, cs, ws, rfl, ht, hc, e⟩
  · rw [hc u2 r2]
    exact PySem.W.kia_one Z I.kIn J e (fun z => nomatch z) fin
  · obtain rfl : u2 = Value.ref tp := r2
    have tup : ObjOk X.prog X.w H s.heap tp (.tup cs) := I.hok tp _ ht
    obtain ⟨_, its, rv, o, h1, h2, n, h3⟩ := tup
    rw [← hc its rv] at e
    obtain ⟨oc, oda, dt, sl⟩ := o
    simp only at h2 h3
    subst h2 h3
    exact PySem.W.kia_tup Z I.kIn J h1 e (fun z => nomatch z) fin
end VX

/-! The greatest number of units in windows; the form of such a curve; curves at most others; plain Lean. -/
namespace VM
def maxTo (g : Nat → Int) : Nat → Int
  | 0 => g 0
  | n + 1 => max (maxTo g n) (g (n + 1))
theorem maxTo_ge {g : Nat → Int} : ∀ {n i : Nat}, i ≤ n → g i ≤ maxTo g n
  | 0, i, h => by have : i = 0 := by omega
                  subst this; exact Int.le_refl _
  | n + 1, i, h => by
    unfold maxTo
    by_cases c : i = n + 1
    · subst c; omega
    · have := maxTo_ge (g := g) (n := n) (i := i) (by omega)
      omega
theorem maxTo_at {g : Nat → Int} : ∀ n : Nat, ∃ i, i ≤ n ∧ maxTo g n = g i
  | 0 => ⟨0, Nat.le_refl _, rfl⟩
  | n + 1 => by
    obtain ⟨i, hi, e⟩ := maxTo_at (g := g) n
    unfold maxTo
    by_cases c : maxTo g n ≤ g (n + 1)
    · exact ⟨n + 1, Nat.le_refl _, by omega⟩
    · exact ⟨i, by omega, by omega⟩
theorem maxTo_is {g : Nat → Int} {n : Nat} {m : Int} (h : m ∈ (List.range (n + 1)).map g) (h2 : ∀ y ∈ (List.range (n + 1)).map g, y ≤ m) : m = maxTo g n := by
  obtain ⟨i, hi, e⟩ := maxTo_at (g := g) n
  obtain ⟨j, hj, ej⟩ := List.mem_map.mp h
  have a := h2 (g i) (List.mem_map.mpr ⟨i, List.mem_range.mpr (by omega), rfl⟩)
  have b := maxTo_ge (g := g) (n := n) (i := j) (by have := List.mem_range.mp hj; omega)
  omega
/-- the greatest number of units in k successive ticks -/
def mostM (us : List Int) (k : Nat) : Int := if us.length ≤ k then us.sum else maxTo (fun s => win us s k) (us.length - k)
theorem win_all {us : List Int} : win us ((0 : Nat) : Int) us.length = us.sum := by
  unfold win
  rw [show ((0 : Nat) : Int) + (us.length : Int) = us.length by omega, pre_all, show ((0 : Nat) : Int) = 0 from rfl, pre_zero]
  omega
theorem most_ge {us : List Int} {s k : Nat} (h : s + k ≤ us.length) : win us s k ≤ mostM us k := by
  unfold mostM
  by_cases c : us.length ≤ k
  · rw [if_pos c]
    have e : s = 0 := by omega
    have e2 : k = us.length := by omega
    subst e e2
    rw [win_all]
    exact Int.le_refl _
  · rw [if_neg c]
    exact maxTo_ge (g := fun s => win us s k) (n := us.length - k) (i := s) (by omega)
theorem most_at {us : List Int} {k : Nat} (h : k ≤ us.length) : ∃ s : Nat, s + k ≤ us.length ∧ mostM us k = win us s k := by
  unfold mostM
  by_cases c : us.length ≤ k
  · rw [if_pos c]
    have e2 : k = us.length := by omega
    subst e2
    exact ⟨0, by omega, win_all.symm⟩
  · rw [if_neg c]
    obtain ⟨s, hs, e⟩ := maxTo_at (g := fun s : Nat => win us s k) (us.length - k)
    exact ⟨s, by omega, e⟩
theorem most_far {us : List Int} {k : Nat} (h : us.length ≤ k) : mostM us k = us.sum := by unfold mostM; rw [if_pos h]
theorem pre_mono {us : List Int} (N : ∀ u ∈ us, 0 ≤ u) (i : Nat) (h : i < us.length) : pre us i ≤ pre us ((i : Int) + 1) := by
  rw [pre_step h]
  have := N us[i] (List.getElem_mem h)
  rw [List.getD_eq_getElem?_getD, List.getElem?_eq_getElem h]
  show _ ≤ _ + us[i]
  omega
theorem most_zero {us : List Int} : mostM us 0 = 0 := by
  obtain ⟨s, hs, e⟩ := most_at (us := us) (k := 0) (Nat.zero_le _)
  rw [e]
  unfold win
  rw [show (s : Int) + ((0 : Nat) : Int) = s by omega]
  omega
theorem most_up {us : List Int} (N : ∀ u ∈ us, 0 ≤ u) (k : Nat) : mostM us k ≤ mostM us (k + 1) := by
  by_cases c : us.length ≤ k
  · rw [most_far c, most_far (by omega)]
    exact Int.le_refl _
  · obtain ⟨s, hs, e⟩ := most_at (us := us) (k := k) (by omega)
    rw [e]
    by_cases d : s + (k + 1) ≤ us.length
    · have a := most_ge (us := us) (s := s) (k := k + 1) d
      have b := pre_mono N (s + k) (by omega)
      unfold win at a ⊢
      rw [show (s : Int) + ((k + 1 : Nat) : Int) = ((s + k : Nat) : Int) + 1 by omega] at a
      rw [show (s : Int) + (k : Int) = ((s + k : Nat) : Int) by omega]
      omega
    · have a := most_ge (us := us) (s := s - 1) (k := k + 1) (by omega)
      have b := pre_mono N (s - 1) (by omega)
      unfold win at a ⊢
      rw [show ((s - 1 : Nat) : Int) + ((k + 1 : Nat) : Int) = (s : Int) + k by omega] at a
      rw [show ((s - 1 : Nat) : Int) + 1 = (s : Int) by omega] at b
      omega
theorem most_mono {us : List Int} (N : ∀ u ∈ us, 0 ≤ u) (a : Nat) : ∀ d : Nat, mostM us a ≤ mostM us (a + d)
  | 0 => Int.le_refl _
  | d + 1 => Int.le_trans (most_mono N a d) (most_up N (a + d))
theorem most_nn {us : List Int} (N : ∀ u ∈ us, 0 ≤ u) (a : Nat) : 0 ≤ mostM us a := by
  have := most_mono N 0 a
  rw [most_zero, Nat.zero_add] at this
  exact this
theorem most_sum {us : List Int} (N : ∀ u ∈ us, 0 ≤ u) (a : Nat) : mostM us a ≤ us.sum := by
  by_cases c : us.length ≤ a
  · rw [most_far c]; exact Int.le_refl _
  · have := most_mono N a (us.length - a)
    rw [most_far (us := us) (k := a + (us.length - a)) (by omega)] at this
    exact this
/-- the function of the tightest curve -/
def tF (us : List Int) (t : Int) : Int := mostM us t.toNat
theorem tF_zero {us : List Int} : tF us 0 = 0 := most_zero
theorem tF_nat {us : List Int} {k : Nat} : tF us k = mostM us k := by unfold tF; rw [Int.toNat_natCast]
theorem most_add {us : List Int} (N : ∀ u ∈ us, 0 ≤ u) (a b : Nat) : mostM us (a + b) ≤ mostM us a + mostM us b := by
  have key : ∀ k a b : Nat, k ≤ us.length → k = a + b → mostM us k ≤ mostM us a + mostM us b := fun k a b hk e => by
    obtain ⟨s, hs, q⟩ := most_at (us := us) hk
    have w1 := most_ge (us := us) (s := s) (k := a) (by omega)
    have w2 := most_ge (us := us) (s := s + a) (k := b) (by omega)
    rw [q]
    unfold win at *
    rw [show ((s + a : Nat) : Int) + (b : Int) = (s : Int) + k by omega] at w2
    rw [show ((s + a : Nat) : Int) = (s : Int) + a by omega] at w2
    omega
  by_cases c : a + b ≤ us.length
  · exact key _ a b c rfl
  · by_cases d : us.length ≤ a
    · have := most_nn N b
      rw [most_far (by omega), most_far d]
      omega
    · have z := key us.length a (us.length - a) (Nat.le_refl _) (by omega)
      have y := most_mono N (us.length - a) (b - (us.length - a))
      rw [show us.length - a + (b - (us.length - a)) = b by omega] at y
      rw [most_far (us := us) (k := a + b) (by omega)]
      rw [most_far (us := us) (k := us.length) (Nat.le_refl _)] at z
      omega
/-- the values that the package writes first -/
def tV (us : List Int) : List Int := if us = [] then [0] else vals (tF us) us.length
theorem tV_length {us : List Int} : (tV us).length = max us.length 1 := by
  unfold tV
  by_cases c : us = []
  · subst c; rfl
  · rw [if_neg c, vals_length]
    have : us.length ≠ 0 := fun z => c (List.length_eq_zero_iff.mp z)
    omega
theorem tV_at {us : List Int} : ∀ t : Int, 0 ≤ t → cvAt (tV us) 1 0 t = tF us t := by
  have R : Rep (tF us) (max us.length 1 : Nat) 1 0 := fun t ht => by
    unfold tF
    rw [most_far (by omega), most_far (by omega)]
    omega
  by_cases c : us = []
  · intro t ht
    subst c
    have e : tF [] = fun _ => 0 := by funext t; unfold tF; rw [most_far (Nat.zero_le _)]; rfl
    rw [e]
    have R0 : Rep (cvAt (tV []) 1 0) ((tV []).length : Nat) 1 0 := Rep.cvAt (by decide) (by decide)
    obtain ⟨n, rfl⟩ : ∃ n : Nat, t = n := ⟨t.toNat, by omega⟩
    induction n with
    | zero => exact cvAt_zero
    | succ n ih =>
      by_cases z : n = 0
      · subst z; rfl
      · rw [R0 _ (by show (((tV []).length : Nat) : Int) < _; rw [tV_length]; show ((max 0 1 : Nat) : Int) < _; omega), show ((n + 1 : Nat) : Int) - 1 = n by omega, ih (by omega)]
        rfl
  · have n0 : us.length ≠ 0 := fun z => c (List.length_eq_zero_iff.mp z)
    unfold tV
    rw [if_neg c]
    rw [show max us.length 1 = us.length by omega] at R
    exact cvAt_vals (by decide) (by omega) tF_zero R
theorem tV_p {us : List Int} : formP (tV us) 1 0 = (1, 0) := by
  show leastFrom _ _ _ (1 - 1 : Int).toNat 1 = _
  rw [show ((1 : Int) - 1).toNat = 0 from rfl]
  unfold leastFrom
  have R0 : Rep (cvAt (tV us) 1 0) ((tV us).length : Nat) 1 0 := Rep.cvAt (by decide) (by rw [tV_length]; omega)
  rw [R0 _ (by omega), show (((tV us).length : Nat) : Int) + 1 - 1 = (tV us).length by omega]
  congr 1
  omega
theorem shr_congr {f g : Int → Int} {s : Int} : ∀ m : Nat, (∀ t : Int, 0 ≤ t → f t = g t) → shr f 1 s m = shr g 1 s m
  | 0, _ => rfl
  | m + 1, h => by
    unfold shr
    rw [h _ (by omega), h (((m + 1 : Nat) : Int) - 1) (by omega), shr_congr m h]
theorem vals_congr {f g : Int → Int} {m : Nat} (h : ∀ t : Int, 0 ≤ t → f t = g t) : vals f m = vals g m := by
  unfold vals
  exact List.map_congr_left fun i _ => h _ (by omega)
/-- the form of the tightest curve -/
def tM (us : List Int) : Nat := shr (tF us) 1 0 (us.length + 1)
def tW (us : List Int) : List Int := vals (tF us) (tM us)
theorem tM_eq {us : List Int} : formM (tV us) 1 0 = tM us := by
  unfold formM tM
  rw [tV_p, shr_congr (g := tF us) _ tV_at, tV_length]
  by_cases c : us.length = 0
  · rw [c]; rfl
  · have : shr (tF us) 1 0 (us.length + 1) = shr (tF us) 1 0 us.length := by
      show (if (1 : Int) < ((us.length + 1 : Nat) : Int) ∧ _ then _ else _) = _
      rw [if_pos]
      refine ⟨by omega, ?_⟩
      rw [tF_nat, show ((us.length + 1 : Nat) : Int) - 1 = ((us.length : Nat) : Int) by omega, tF_nat, most_far (by omega), most_far (Nat.le_refl _)]
      omega
    rw [this, show max us.length 1 = us.length by omega]
theorem tW_eq {us : List Int} : formV (tV us) 1 0 = tW us := by
  unfold formV tW
  rw [tM_eq]
  exact vals_congr tV_at
theorem shr_pos {f : Int → Int} : ∀ m : Nat, 1 ≤ m → 1 ≤ shr f 1 0 m ∧ shr f 1 0 m ≤ m
  | 0, h => absurd h (by decide)
  | m + 1, _ => by
    unfold shr
    by_cases c : (1 : Int) < ((m + 1 : Nat) : Int) ∧ f ((m + 1 : Nat) : Int) = f (((m + 1 : Nat) : Int) - 1) + 0
    · rw [if_pos c]
      have := shr_pos (f := f) m (by omega)
      omega
    · rw [if_neg c]; omega
theorem tW_at {us : List Int} : ∀ t : Int, 0 ≤ t → cvAt (tW us) 1 0 t = tF us t := fun t ht => by
  obtain ⟨_, _, _, _, h⟩ := form_spec (vs := tV us) (p := 1) (g := 0) (by decide) (by rw [tV_length]; omega)
  have := h t ht
  rw [tW_eq, tV_p] at this
  rw [this, tV_at t ht]
theorem tW_len {us : List Int} : 1 ≤ (tW us).length ∧ (tW us).length ≤ us.length + 1 := by
  unfold tW
  rw [vals_length]
  exact shr_pos _ (by omega)
theorem tW_kept {us : List Int} : Kept (cvAt (tW us) 1 0) us := fun s k h1 h2 => by
  rw [tW_at _ (by omega), tF_nat]
  exact most_ge h2
theorem tW_good {us : List Int} (N : ∀ u ∈ us, 0 ≤ u) (a b : Int) (ha : 0 ≤ a) (hb : 0 ≤ b) : cvAt (tW us) 1 0 (a + b) ≤ cvAt (tW us) 1 0 a + cvAt (tW us) 1 0 b := by
  rw [tW_at _ (by omega), tW_at _ ha, tW_at _ hb]
  have := most_add N a.toNat b.toNat
  unfold tF
  rw [show (a + b).toNat = a.toNat + b.toNat by omega]
  exact this
/-! ### the record turned round, with an empty tick behind -/
theorem sum_rev (us : List Int) : us.reverse.sum = us.sum := by
  induction us with
  | nil => rfl
  | cons u us ih => rw [List.reverse_cons, List.sum_append, ih, List.sum_cons]; simp; omega
theorem pre_rev {us : List Int} {i : Nat} (h : i ≤ us.length) : pre us.reverse i = us.sum - pre us ((us.length - i : Nat) : Int) := by
  unfold pre
  rw [Int.toNat_natCast, Int.toNat_natCast, List.take_reverse, sum_rev]
  have e := List.take_append_drop (us.length - i) us
  have s : us.sum = (us.take (us.length - i)).sum + (us.drop (us.length - i)).sum := by rw [← List.sum_append, e]
  omega
theorem win_rev {us : List Int} {s k : Nat} (h : s + k ≤ us.length) : win us.reverse s k = win us ((us.length - s - k : Nat) : Int) k := by
  unfold win
  rw [show (s : Int) + (k : Int) = ((s + k : Nat) : Int) by omega, pre_rev h, pre_rev (by omega), show ((us.length - s - k : Nat) : Int) + (k : Int) = ((us.length - s : Nat) : Int) by omega, show us.length - (s + k) = us.length - s - k by omega]
  omega
theorem win_push {us : List Int} {x : Int} {s k : Nat} (h : s + k ≤ us.length) : win (us ++ [x]) s k = win us s k := by
  unfold win
  rw [pre_push (by omega), pre_push (by omega)]
theorem most_back {us : List Int} (N : ∀ u ∈ us, 0 ≤ u) (k : Nat) : mostM (us.reverse ++ [0]) k = mostM us k := by
  have len : (us.reverse ++ [0]).length = us.length + 1 := by rw [List.length_append, List.length_reverse]; rfl
  have sm : (us.reverse ++ [0]).sum = us.sum := by rw [List.sum_append, sum_rev]; simp
  by_cases c : us.length < k
  · rw [most_far (by omega), most_far (by omega), sm]
  · apply Int.le_antisymm
    · obtain ⟨s, hs, e⟩ := most_at (us := us.reverse ++ [0]) (k := k) (by omega)
      rw [len] at hs
      rw [e]
      by_cases d : s + k ≤ us.length
      · rw [win_push (by rw [List.length_reverse]; exact d), win_rev d]
        exact most_ge (by omega)
      · by_cases k0 : k = 0
        · subst k0
          rw [most_zero]
          unfold win
          rw [show (s : Int) + ((0 : Nat) : Int) = s by omega]
          omega
        · have p1 : pre (us.reverse ++ [0]) ((s : Int) + k) = us.sum := by
            rw [pre_last (by rw [List.length_reverse]; omega), pre_all, sum_rev]
            omega
          have p2 : pre (us.reverse ++ [0]) s = us.sum - pre us ((us.length - s : Nat) : Int) := by
            rw [pre_push (by rw [List.length_reverse]; omega), pre_rev (by omega)]
          have w : win (us.reverse ++ [0]) s k = win us ((0 : Nat) : Int) (k - 1 : Nat) := by
            unfold win
            rw [p1, p2, show ((0 : Nat) : Int) + ((k - 1 : Nat) : Int) = ((us.length - s : Nat) : Int) by omega, show ((0 : Nat) : Int) = 0 from rfl, pre_zero]
            omega
          rw [w]
          have a := most_ge (us := us) (s := 0) (k := k - 1) (by omega)
          have b := most_up N (k - 1)
          rw [show k - 1 + 1 = k by omega] at b
          omega
    · obtain ⟨s, hs, e⟩ := most_at (us := us) (k := k) (by omega)
      rw [e]
      have a := most_ge (us := us.reverse ++ [0]) (s := us.length - s - k) (k := k) (by omega)
      rw [win_push (by rw [List.length_reverse]; omega), win_rev (by omega), show us.length - (us.length - s - k) - k = s by omega] at a
      exact a
theorem tW_back {us : List Int} (N : ∀ u ∈ us, 0 ≤ u) : tW (us.reverse ++ [0]) = tW us := by
  have F : tF (us.reverse ++ [0]) = tF us := by
    funext t
    unfold tF
    exact most_back N t.toNat
  have M : tM (us.reverse ++ [0]) = tM us := by
    unfold tM
    rw [F, List.length_append, List.length_reverse]
    show shr (tF us) 1 0 (us.length + 1 + 1) = _
    show (if (1 : Int) < ((us.length + 1 + 1 : Nat) : Int) ∧ _ then _ else _) = _
    rw [if_pos]
    refine ⟨by omega, ?_⟩
    rw [tF_nat, show ((us.length + 1 + 1 : Nat) : Int) - 1 = ((us.length + 1 : Nat) : Int) by omega, tF_nat, most_far (by omega), most_far (by omega)]
    omega
  unfold tW
  rw [F, M]
/-! ### at most -/
/-- is one curve at most another one, as the package looks -/
def amN (n1 n2 : Nat) (p1 p2 : Int) : Nat := (max ((n1 : Int) - p1) ((n2 : Int) - p2) + (Nat.lcm p1.toNat p2.toNat : Nat)).toNat
def amM (f1 f2 : Int → Int) (n1 n2 : Nat) (p1 g1 p2 g2 : Int) : Bool :=
  if g2 * ((Nat.lcm p1.toNat p2.toNat : Nat) / p2) < g1 * ((Nat.lcm p1.toNat p2.toNat : Nat) / p1) then false else
    (List.range (amN n1 n2 p1 p2)).all fun i : Nat => decide (f1 ((i : Int) + 1) ≤ f2 ((i : Int) + 1))
theorem all_iff {n : Nat} {f g : Int → Int} : ((List.range n).all fun i : Nat => decide (f ((i : Int) + 1) ≤ g ((i : Int) + 1))) = true ↔ ∀ t : Int, 1 ≤ t → t ≤ n → f t ≤ g t := by
  rw [List.all_eq_true]
  constructor
  · intro h t h1 h2
    have := of_decide_eq_true (h (t - 1).toNat (List.mem_range.mpr (by omega)))
    rw [show (((t - 1).toNat : Nat) : Int) + 1 = t by omega] at this
    exact this
  · intro h i hi
    exact decide_eq_true (h _ (by omega) (by have := List.mem_range.mp hi; omega))
/-- the tightest curve is at most a curve exactly if the record keeps it -/
theorem am_tight {us : List Int} (N : ∀ u ∈ us, 0 ≤ u) {f : Int → Int} {n2 : Nat} {p g : Int} (hp : 0 < p) (hpn : p ≤ n2) (hg : 0 ≤ g) (h0 : 0 ≤ f 1) (up : ∀ k : Nat, 1 ≤ k → f k ≤ f ((k : Int) + 1)) :
    amM (cvAt (tW us) 1 0) f (tW us).length n2 1 0 p g = (List.range us.length).all fun i : Nat => decide (tF us ((i : Int) + 1) ≤ f ((i : Int) + 1)) := by
  have L : Nat.lcm (1 : Int).toNat p.toNat = p.toNat := by rw [show (1 : Int).toNat = 1 from rfl]; exact Nat.lcm_one_left _
  have fm : ∀ (d k : Nat), 1 ≤ k → f k ≤ f ((k + d : Nat) : Int) := fun d k hk => by
    induction d with
    | zero => exact Int.le_refl _
    | succ d ih =>
      have := up (k + d) (by omega)
      rw [show ((k + d : Nat) : Int) + 1 = ((k + (d + 1) : Nat) : Int) by omega] at this
      omega
  have fmi : ∀ a b : Int, 1 ≤ a → a ≤ b → f a ≤ f b := fun a b h1 h2 => by
    have := fm (b - a).toNat a.toNat (by omega)
    rw [show ((a.toNat + (b - a).toNat : Nat) : Int) = b by omega, show ((a.toNat : Nat) : Int) = a by omega] at this
    exact this
  obtain ⟨l1, l2⟩ := tW_len (us := us)
  have gg : ¬ g * ((Nat.lcm (1 : Int).toNat p.toNat : Nat) / p) < 0 * ((Nat.lcm (1 : Int).toNat p.toNat : Nat) / (1 : Int)) := by
    rw [L, Int.zero_mul, show ((p.toNat : Nat) : Int) = p by omega, Int.ediv_self (by omega)]
    omega
  unfold amM
  rw [if_neg gg, Bool.eq_iff_iff, all_iff, all_iff]
  have nn : ((amN (tW us).length n2 1 p : Nat) : Int) = max (((tW us).length : Int) - 1) ((n2 : Int) - p) + p := by
    unfold amN
    rw [L]
    omega
  constructor
  · intro h t h1 h2
    rw [← tW_at _ (by omega)]
    by_cases c : t ≤ (amN (tW us).length n2 1 p : Nat)
    · exact h t h1 c
    · have R : Rep (cvAt (tW us) 1 0) (tW us).length 1 0 := Rep.cvAt (by decide) (by omega)
      have flat : ∀ d : Nat, cvAt (tW us) 1 0 (((tW us).length + d : Nat) : Int) = cvAt (tW us) 1 0 (tW us).length := fun d => by
        induction d with
        | zero => rfl
        | succ d ih =>
          rw [R _ (by omega), show (((tW us).length + (d + 1) : Nat) : Int) - 1 = (((tW us).length + d : Nat) : Int) by omega, ih]
          omega
      have e := flat (t - (tW us).length).toNat
      rw [show (((tW us).length + (t - (tW us).length).toNat : Nat) : Int) = t by omega] at e
      rw [e]
      exact Int.le_trans (h _ (by omega) (by omega)) (fmi _ _ (by omega) (by omega))
  · intro h t h1 h2
    rw [tW_at _ (by omega)]
    by_cases c : t ≤ us.length
    · exact h t h1 c
    · unfold tF
      rw [most_far (by omega)]
      by_cases z : us.length = 0
      · have : us = [] := List.length_eq_zero_iff.mp z
        subst this
        exact Int.le_trans h0 (fmi 1 t (by decide) h1)
      · have a := h us.length (by omega) (Int.le_refl _)
        rw [tF_nat, most_far (Nat.le_refl _)] at a
        exact Int.le_trans a (fmi _ _ (by omega) (by omega))
end VM

/-! The first break of a curve; a curve later; the sum of two. -/
namespace VM
theorem least_nat {P : Nat → Prop} (h : ∃ n, P n) : ∃ n, P n ∧ ∀ m, m < n → ¬ P m := by
  obtain ⟨n, hn⟩ := h
  induction n using Nat.strongRecOn with
  | ind n ih =>
    by_cases z : ∃ m, m < n ∧ P m
    · obtain ⟨m, hm, pm⟩ := z
      exact ih m hm pm
    · exact ⟨n, hn, fun m hm pm => z ⟨m, hm, pm⟩⟩
/-- the first break among all pairs, or that there is none -/
def First (f : Int → Int) : Option (Int × Int) → Prop
  | none => ∀ a b : Int, 1 ≤ a → a ≤ b → f (a + b) ≤ f a + f b
  | some (a, b) => 1 ≤ a ∧ a ≤ b ∧ f a + f b < f (a + b) ∧ ∀ x y : Int, 1 ≤ x → x ≤ y → (x + y < a + b ∨ (x + y = a + b ∧ x < a)) → f (x + y) ≤ f x + f y
theorem first_ex (f : Int → Int) : ∃ o, First f o := by
  by_cases h : ∃ s : Nat, ∃ a : Nat, 1 ≤ a ∧ 2 * a ≤ s ∧ f a + f (s - a) < f s
  · obtain ⟨s, ⟨a0, ha0⟩, hs⟩ := least_nat h
    obtain ⟨a, ⟨a1, a2, a3⟩, ha⟩ := least_nat (P := fun a : Nat => 1 ≤ a ∧ 2 * a ≤ s ∧ f a + f (s - a) < f s) ⟨a0, ha0⟩
    refine ⟨some ((a : Int), (s : Int) - a), by omega, by omega, ?_, fun x y hx hxy lt => ?_⟩
    · rw [show (a : Int) + (s - a) = s by omega]; exact a3
    · by_cases c : f (x + y) ≤ f x + f y
      · exact c
      · exfalso
        have e1 : ((x.toNat : Nat) : Int) = x := by omega
        have e2 : (((x + y).toNat : Nat) : Int) = x + y := by omega
        have key : 1 ≤ x.toNat ∧ 2 * x.toNat ≤ (x + y).toNat ∧ f (x.toNat : Nat) + f (((x + y).toNat : Nat) - (x.toNat : Nat) : Int) < f ((x + y).toNat : Nat) := by
          refine ⟨by omega, by omega, ?_⟩
          rw [e1, e2, show x + y - x = y by omega]
          omega
        rcases lt with lt | ⟨lt, lt2⟩
        · exact hs (x + y).toNat (by omega) ⟨x.toNat, key⟩
        · refine ha x.toNat (by omega) ?_
          have e3 : (x + y).toNat = s := by omega
          rw [e3] at key
          exact key
  · refine ⟨none, fun a b ha hab => ?_⟩
    by_cases c : f (a + b) ≤ f a + f b
    · exact c
    · exfalso
      apply h
      refine ⟨(a + b).toNat, a.toNat, by omega, by omega, ?_⟩
      rw [show ((a.toNat : Nat) : Int) = a by omega, show (((a + b).toNat : Nat) : Int) = a + b by omega, show a + b - a = b by omega]
      omega
theorem First.congr {f h : Int → Int} {o : Option (Int × Int)} (e : ∀ t : Int, 0 ≤ t → f t = h t) (F : First f o) : First h o := by
  cases o with
  | none => exact fun a b h1 h2 => by rw [← e (a + b) (by omega), ← e a (by omega), ← e b (by omega)]; exact F a b h1 h2
  | some ab =>
    obtain ⟨a, b⟩ := ab
    obtain ⟨a1, a2, a3, a4⟩ := F
    refine ⟨a1, a2, ?_, fun x y h1 h2 lt => ?_⟩
    · rw [← e (a + b) (by omega), ← e a (by omega), ← e b (by omega)]; exact a3
    · rw [← e (x + y) (by omega), ← e x (by omega), ← e y (by omega)]; exact a4 x y h1 h2 lt
/-- neither length of the first break is greater than the number of values -/
theorem first_le {f : Int → Int} {n p g a b : Int} (R : Rep f n p g) (hp : 0 < p) (hpn : p ≤ n) (F : First f (some (a, b))) : b ≤ n := by
  obtain ⟨a1, a2, a3, a4⟩ := F
  by_cases c : b ≤ n
  · exact c
  exfalso
  have r1 := R b (by omega)
  have r2 := R (a + b) (by omega)
  by_cases z : a ≤ b - p
  · have := a4 a (b - p) a1 z (.inl (by omega))
    rw [show a + (b - p) = a + b - p by omega] at this
    omega
  · have := a4 (b - p) a (by omega) (by omega) (.inl (by omega))
    rw [show b - p + a = a + b - p by omega] at this
    omega
/-- a function later by n -/
def laterF (f : Int → Int) (n : Int) (t : Int) : Int := if t ≤ n then 0 else f (t - n)
theorem later_vals {f : Int → Int} {n m : Nat} : List.replicate n (0 : Int) ++ vals f m = vals (laterF f n) (n + m) := by
  refine List.ext_getElem? fun i => ?_
  by_cases h : i < n
  · rw [List.getElem?_append_left (by rw [List.length_replicate]; exact h), List.getElem?_replicate, if_pos h]
    unfold vals
    rw [List.getElem?_map, List.getElem?_range (by omega)]
    show some (0 : Int) = some (laterF f n ((i : Int) + 1))
    unfold laterF
    rw [if_pos (by omega)]
  · rw [List.getElem?_append_right (by rw [List.length_replicate]; omega), List.length_replicate]
    unfold vals
    by_cases c : i < n + m
    · rw [List.getElem?_map, List.getElem?_map, List.getElem?_range (by omega), List.getElem?_range (by omega)]
      show some (f (((i - n : Nat) : Int) + 1)) = some (laterF f n ((i : Int) + 1))
      unfold laterF
      rw [if_neg (by omega), show ((i - n : Nat) : Int) + 1 = (i : Int) + 1 - n by omega]
    · rw [List.getElem?_eq_none (by simp; omega), List.getElem?_eq_none (by simp; omega)]
theorem later_rep {f : Int → Int} {n m p g : Int} (R : Rep f m p g) (hp : 0 < p) (hpm : p ≤ m) (hn : 0 ≤ n) (h0 : f 0 = 0) : Rep (laterF f n) (n + m) p g := by
  intro t ht
  unfold laterF
  by_cases c : t - p ≤ n
  · rw [if_neg (by omega), if_pos c]
    have := R (t - n) (by omega)
    rw [show t - n - p = 0 by omega, h0] at this
    exact this
  · rw [if_neg (by omega), if_neg c, R (t - n) (by omega), show t - n - p = t - p - n by omega]
theorem later_zero {f : Int → Int} {n : Int} (hn : 0 ≤ n) : laterF f n 0 = 0 := by unfold laterF; rw [if_pos hn]
theorem vals_self {cs : List Int} {p g : Int} : vals (cvAt cs p g) cs.length = cs := by
  refine List.ext_getElem? fun i => ?_
  unfold vals
  by_cases h : i < cs.length
  · rw [List.getElem?_map, List.getElem?_range h, List.getElem?_eq_getElem h]
    show some (cvAt cs p g ((i : Int) + 1)) = _
    rw [cvAt_in (by omega) (by omega), show ((i : Int) + 1 - 1).toNat = i by omega, List.getD_eq_getElem?_getD, List.getElem?_eq_getElem h]
    rfl
  · rw [List.getElem?_eq_none (by simp; omega), List.getElem?_eq_none (by omega)]
/-- zeros in front: the curve later -/
theorem cvAt_later {cs : List Int} {p g : Int} {n : Nat} (hp : 0 < p) (hpn : p ≤ cs.length) {t : Int} (ht : 0 ≤ t) :
    cvAt (List.replicate n 0 ++ cs) p g t = laterF (cvAt cs p g) n t := by
  have e : List.replicate n (0 : Int) ++ cs = vals (laterF (cvAt cs p g) n) (n + cs.length) := by
    rw [← later_vals, vals_self]
  rw [e]
  refine cvAt_vals hp (by omega) (later_zero (by omega)) ?_ t ht
  have := later_rep (n := (n : Int)) (Rep.cvAt (g := g) hp hpn) hp hpn (by omega) cvAt_zero
  rw [show (((n + cs.length : Nat)) : Int) = (n : Int) + cs.length by omega]
  exact this
theorem Rep.times {f : Int → Int} {n p g : Int} (R : Rep f n p g) (hp : 0 < p) (k : Nat) : ∀ t, n + (k : Int) * p < t + p → f t = f (t - k * p) + k * g := by
  induction k with
  | zero => intro t ht; simp
  | succ k ih =>
    intro t ht
    have e1 : ((k + 1 : Nat) : Int) * p = k * p + p := by rw [show ((k + 1 : Nat) : Int) = (k : Int) + 1 by omega, Int.add_mul, Int.one_mul]
    have e2 : ((k + 1 : Nat) : Int) * g = k * g + g := by rw [show ((k + 1 : Nat) : Int) = (k : Int) + 1 by omega, Int.add_mul, Int.one_mul]
    rw [e1] at ht ⊢
    rw [e2, ih t (by omega), R (t - k * p) (by omega), show t - k * p - p = t - (k * p + p) by omega]
    omega
/-- with a multiple of the period -/
theorem Rep.mul {f : Int → Int} {n p g N P : Int} (R : Rep f n p g) (hp : 0 < p) (hd : p ∣ P) (hP : 0 < P) (hN : n - p + P ≤ N) : Rep f N P (g * (P / p)) := by
  intro t ht
  obtain ⟨k, rfl⟩ := hd
  have k0 : 0 < k := by
    by_cases z : 0 < k
    · exact z
    · exfalso
      have := Int.mul_nonpos_of_nonneg_of_nonpos (show 0 ≤ p by omega) (show k ≤ 0 by omega)
      omega
  obtain ⟨m, rfl⟩ : ∃ m : Nat, k = (m : Int) := ⟨k.toNat, by omega⟩
  have := R.times hp m t (by rw [Int.mul_comm p] at hN; omega)
  rw [Int.mul_ediv_cancel_left _ (by omega : p ≠ 0), Int.mul_comm p, this, Int.mul_comm g]
theorem Rep.add {f h : Int → Int} {N P g1 g2 : Int} (R : Rep f N P g1) (S : Rep h N P g2) : Rep (fun t => f t + h t) N P (g1 + g2) := by
  intro t ht
  show f t + h t = f (t - P) + h (t - P) + (g1 + g2)
  rw [R t ht, S t ht]
  omega
end VM

/-! A method of an own class that may raise, called where errors are caught. -/
namespace VX
open PySem PySem.Spec PyProof.Rows L2
/-- a statement behind which nothing comes -/
def tStop (t : TS) : TS := fun D σ H => t { D with nx := fun _ _ => False } σ H
theorem pss_stop {X : Cx} {st : Stmt} {more : List Stmt} {t : TS} (h1 : PS X st t) : PSs X (st :: more) (tStop t) := by
  constructor
  intro pins s σ H D I hm
  refine wpAny_execs_cons (thn (h1.run pins s σ H _ I hm) ?_)
  intro fl s1 q
  match fl, q with
  | .next, ⟨σ', H', I', q⟩ => exact q.elim
  | .ret v, q => exact q
  | .brk, q => exact q
  | .cont, q => exact q
def tMethS (C : Addr) (m : Str) (sp : Sp) (E : L2.St → XK) (ta : TE) (t : TA) : TE := fun σ H Q => ta σ H fun x H1 => ∃ a dx fs, x = .ref a ∧ H1 a = some (.ins C dx fs) ∧ fs.lookup m = none ∧ t σ H1 fun vs H2 => sp (x :: vs) H2 Q (E σ)
theorem pe_fldK {X : Cx} {K' : PySem.W.Frag} {e : Expr} {ta : TE} {f : Str} {pos : Pos} (he : PE X e ta) (hb : attributeBase e f X.env (eval e X.env) = eval e X.env) (hK : X.K = K') : PE X (.Attribute e f pos) (tFld K' ta f) := by
  subst hK
  exact pe_fld he hb
section
variable {X : Cx} {CX : CXT} {k : Nat} {f C : Addr} {fd : FuncData} {ps : List Str} {sp : Sp} {E : L2.St → XK} {x m : Str} {p pos apos : Pos} {e o : Expr} {es : List Expr} {ta : TE} {t : TA}
theorem pe_methS {pl : Sem Bool} (he : PE X o ta) (c : Cls X.K C) (hm : Meth X.K C m f) (F : FnOk X.prog X.w X.K X.mg X.base CX k f fd ps sp) (hr : Room k X.A) (hb : Binds X.K fd ps []) (hx : ∀ σ, PassesAt CX X σ (E σ)) (ha : PA X (e :: es) t)
    (hst : starEach (e :: es) X.env = (false, eval e X.env) :: starEach es X.env := by rfl) (hpl : (backTo pos (starEach es X.env)).any (·.1) = false := by rfl)
    (ht : eval (.Call (.Attribute o m apos) (e :: es) [] pos) X.env = (do
      let ov ← eval o X.env
      standAt apos.atName
      let (f, first) ← holding [ov] (getMethod ov m pl)
      callWith pos f first (backTo pos (starEach (e :: es) X.env)) (backToKw pos (keywordEach [] X.env))) := by rfl) :
    PE X (.Call (.Attribute o m apos) (e :: es) [] pos) (tMethS C m sp E ta t) := by
  refine ⟨fun pins s σ H Q I h => ?_⟩
  refine PySem.W.methodCall_KW (pl := pl) (thn (he.run pins s σ H _ I h) fun u s1 ⟨x, H1, I1, rx, a, dx, fs, ex, ea, l, q⟩ => ?_) ht
  subst ex
  obtain rfl : u = Value.ref a := rx
  refine getmeth_ok I1 ea c hm l ?_
  refine PySem.W.callWith_K (first := [.ref a]) (h₀ := X.base) I.ok.mod.kin hm.kp (thn (ha.run pos pins s1 σ H1 _ I1 q) fun us s2 ⟨vs, H2, I2, r, q2⟩ => ⟨I2.kIn, ?_⟩) hst hpl
  exact run_fnS (us := .ref a :: us) (vs := .ref a :: vs) F hr hb (hx σ) I2 (.cons rfl r) q2
end
end VX

/-! A new instance whose __init__ may raise, made where errors are caught. -/
namespace VX
open PySem PySem.Spec PyProof.Rows L2
def tMakeKS (C : Addr) (n m : Nat) (sp : Sp) (gV : List V → List V → List V) (E : L2.St → XK) (t tk : TA) : TE := fun σ H Q => L2.tMakeK C n m sp gV (E σ) t tk σ H Q
section
variable {X : Cx} {CX : CXT} {k n : Nat} {f C : Addr} {fd : FuncData} {ps ks : List Str} {sp : Sp} {E : L2.St → XK} {x : Str} {p pos : Pos} {e : Expr} {es : List Expr} {kws : List Keyword} {t tk : TA} {g : List Value → List Value → List Value} {gV : List V → List V → List V}
theorem run_makeKS {pins : List (Addr × Obj)} {σ : L2.St} {H : Hp} {s : Shared} {Q : VK} {us ws : List Value} {vs zs : List V} {E : XK} (M : Mk X.K C f) (F : FnOk X.prog X.w X.K X.mg X.base CX k f fd ps sp) (hr : Room (k + 1) X.A) (hb : KBn X.K fd ps (n + 1) ks g gV)
    (hx : PassesAt CX X σ E) (I : Inv X pins σ H s) (r : Vals vs us) (rz : Vals zs ws) (l1 : vs.length = n) (l2 : zs.length = ks.length)
    (h : ∀ x dx, H x = none → H dx = none → dx ≠ x → sp (gV (.ref x :: vs) zs) (upd (upd H dx (.own x)) x (.ins C dx [])) (fun v H2 => v = .non ∧ Q (.ref x) H2) E) :
    wpAny (model X.prog X.w) X.A (call (.ref C) us (ks.zip ws)) (EP X pins σ Q) X.xe s := by
  have fr1 : H (s.heap.objs.size + 1) = none := I.hok.fresh (Nat.le_succ _)
  have fr0 : H s.heap.objs.size = none := I.hok.fresh (Nat.le_refl _)
  have goal := h (s.heap.objs.size + 1) s.heap.objs.size fr1 fr0 (Nat.ne_of_lt (Nat.lt_succ_self _))
  have J := Inv.made (C := C) I
  have ra : Vals (V.ref (s.heap.objs.size + 1) :: vs) (Value.ref (s.heap.objs.size + 1) :: us) := .cons rfl r
  have n1 : (Value.ref (s.heap.objs.size + 1) :: us).length = n + 1 := by rw [List.length_cons, ← r.length, l1]
  have run := F.run _ X.stack _ _ ⟨Value.ref (s.heap.objs.size + 1) :: us, ks.zip ws⟩ _ _ _ E (hr.make C us (ks.zip ws)) (J.env0.make C us (ks.zip ws)) (hb.to _ _ ws J.kIn n1 (rz.length.symm.trans l2)) (hb.rel ra rz) goal
  refine wpAny_call (make_map (f := f) I.kIn M.makes M.init (beq_iff_eq.mp M.fn) (codeAny_mono run fun r s' hq' => ?_))
  match r, hq' with
  | .error e, hq' => exact hx pins _ _ e s' J hq'
  | .ok (.ret u), hq' =>
    obtain ⟨v, H', I3, rv, ev, q3⟩ := J.after hq'
    subst ev
    exact ⟨rv, ⟨V.ref (s.heap.objs.size + 1), H', I3, rfl, q3⟩⟩
  | .ok .next, hq' => exact False.elim hq'
  | .ok .brk, hq' => exact False.elim hq'
  | .ok .cont, hq' => exact False.elim hq'
theorem pe_makeKS (M : Mk X.K C f) (F : FnOk X.prog X.w X.K X.mg X.base CX k f fd ps sp) (hr : Room (k + 1) X.A) (hg : Gl X x) (hm : X.mg x = some (.ref C)) (hb : KBn X.K fd ps (n + 1) ks g gV) (hx : ∀ σ, PassesAt CX X σ (E σ)) (ha : PA X (e :: es) t) (hkw : PK X kws tk)
    (hall : (backToKw pos (keywordEach kws X.env)).all (·.1.isSome) = true := by rfl) (hks : (backToKw pos (keywordEach kws X.env)).filterMap (·.1) = ks := by rfl) (hdb : (x == ("__debug__" : Str)) = false := by decide)
    (he : starEach (e :: es) X.env = (false, eval e X.env) :: starEach es X.env := by rfl) (hpl : ((backTo pos (starEach (e :: es) X.env)).any (·.1) || (backToKw pos (keywordEach kws X.env)).any (·.1.isNone)) = false := by rfl) :
    PE X (.Call (.Name x p) (e :: es) kws pos) (tMakeKS C n ks.length sp gV E t tk) := by
  refine ⟨fun pins s σ H Q I h => ?_⟩
  refine wpAny_Call_Name_kw (ld_glob I hg hm ?_ hdb)
  refine PySem.W.callWith_KW (h₀ := X.base) I.ok.mod.kin M.kp hall (thn (ha.run pos pins s σ H _ I h) fun us s1 ⟨vs, H1, I1, r, q⟩ => ?_) hpl he
  refine thn (hkw.run pos pins s1 σ H1 _ I1 q) fun ws s2 ⟨zs, H2, I2, rz, l1, l2, q2⟩ => ⟨I2.kIn, ?_⟩
  rw [hks]
  exact run_makeKS M F hr hb (hx σ) I2 r rz l1 l2 q2
end
end VX
namespace L2
open PySem PySem.Spec PyProof.Rows
/-- a def with defaults that may raise -/
theorem FunD.okX {P : Program} {w : World} {K : PySem.W.Frag} {mg : Str → Option Value} {base : Heap} {x qual : Str} {params : Arguments} {body : List Stmt} {scope : Scope} {dvs : List V} {kws : List (Str × V)} {f : Addr} {fd : FuncData} {N ps : List Str} {k : Nat} {sp : Sp}
    (F : FunD K x qual params body scope dvs kws f fd) (S : FnScope N ps scope) (len : ∀ vs H Q E, sp vs H Q E → vs.length = ps.length)
    (hbody : ∀ (cdv : Value) (A : Around) (outer : List Env) (s : Shared) (H : Hp) (vs : List V) (Q : VK) (E : XK), Room k (A.deeper (envOfC qual scope s.heap.objs.size f cdv)) → sp vs H Q E →
      ∃ t, PSs (cxOf (L2.CX P w) P w K mg base N qual scope f cdv A outer s H E) body t ∧ t { nx := fun _ H' => Q .non H', rt := Q } (start N vs) H) : FnOk P w K mg base (L2.CX P w) (k + 1) f fd ps sp :=
  F.ok S len hbody
end L2

/-! repr of data with dicts in it. -/
namespace VQ
open PySem PySem.Spec PyProof.Rows L2
def kD : Key → PyData
  | .inl i => .int i
  | .inr x => .str x
mutual
inductive Dm (K : PySem.W.Frag) (H : Hp) : V → PyData → Prop
  | flat {v : V} {d : PyData} : Dp K H v d → Dm K H v d
  | lst {a : Addr} {xs : List V} {ds : List PyData} : SqL K H a xs → DmAll K H xs ds → Dm K H (.ref a) (.list ds)
  | tup {a : Addr} {xs : List V} {ds : List PyData} : SqT K H a xs → DmAll K H xs ds → Dm K H (.ref a) (.tuple ds)
  | dct {a : Addr} {kvs : List (Key × V)} {ds : List PyData} : H a = some (.dK kvs) → DmAll K H (kvs.map (·.2)) ds → Dm K H (.ref a) (.dict ((kvs.map fun e => kD e.1).zip ds))
inductive DmAll (K : PySem.W.Frag) (H : Hp) : List V → List PyData → Prop
  | nil : DmAll K H [] []
  | cons {v : V} {vs : List V} {d : PyData} {ds : List PyData} : Dm K H v d → DmAll K H vs ds → DmAll K H (v :: vs) (d :: ds)
end
theorem DmAll.length {K : PySem.W.Frag} {H : Hp} : ∀ {vs : List V} {ds : List PyData}, DmAll K H vs ds → vs.length = ds.length
  | _, _, .nil => rfl
  | _, _, .cons _ h => by simp [h.length]
section
variable {X : Cx} {pins : List (Addr × Obj)} {σ : L2.St} {H : Hp} {s : Shared}
/-- what a thing shows, one level below -/
def Sh (P : Program) (w : World) (h : Heap) (u : Value) (d : PyData) : Prop :=
  (∃ as, Reads h u d as) ∧ (d.showable = true → d.shown.length ≤ sizeLine → ∃ bs, ReadAtMost h d.depth bs ∧ ReprK P w bs h d.depth u d.shown)
def ShAll (P : Program) (w : World) (h : Heap) (us : List Value) (ds : List PyData) : Prop :=
  (∃ as, ReadsAll h us ds as) ∧ (PyData.showableAll ds = true → (∀ t ∈ PyData.shownAll ds, t.length ≤ sizeLine) → ∃ bs, ReadAtMost h (PyData.depthAll ds) bs ∧ ReprAllK P w bs h (PyData.depthAll ds) us (PyData.shownAll ds))
theorem ShAll.nil {P : Program} {w : World} {h : Heap} : ShAll P w h [] [] :=
  ⟨⟨_, .nil⟩, fun _ _ => ⟨[], (fun _ h => nomatch h), by simp only [PyData.shownAll]; exact .nil⟩⟩
theorem ShAll.cons {P : Program} {w : World} {h : Heap} {u : Value} {us : List Value} {d : PyData} {ds : List PyData} (a : Sh P w h u d) (b : ShAll P w h us ds) : ShAll P w h (u :: us) (d :: ds) := by
  obtain ⟨⟨as, ra⟩, fa⟩ := a
  obtain ⟨⟨bs, rb⟩, fb⟩ := b
  refine ⟨⟨_, .cons ra rb⟩, fun hs hz => ?_⟩
  have hs' : d.showable = true ∧ PyData.showableAll ds = true := by simpa [PyData.showableAll] using hs
  obtain ⟨b1, m1, k1⟩ := fa hs'.1 (hz _ (by simp only [PyData.shownAll]; exact List.mem_cons_self ..))
  obtain ⟨b2, m2, k2⟩ := fb hs'.2 (fun t ht => hz t (by simp only [PyData.shownAll]; exact List.mem_cons_of_mem _ ht))
  have l1 : d.depth ≤ PyData.depthAll (d :: ds) := by simp only [PyData.depthAll]; omega
  have l2 : PyData.depthAll ds ≤ PyData.depthAll (d :: ds) := by simp only [PyData.depthAll]; omega
  refine ⟨b1 ++ b2, (m1.mono l1).append (m2.mono l2), ?_⟩
  have q1 : ReprK P w (b1 ++ b2) h (PyData.depthAll (d :: ds)) u d.shown := (k1.more fun b hb => List.mem_append_left _ hb).level_le l1
  have q2 : ReprAllK P w (b1 ++ b2) h (PyData.depthAll (d :: ds)) us (PyData.shownAll ds) := k2.more_le (fun b hb => List.mem_append_right _ hb) l2
  rw [show PyData.shownAll (d :: ds) = d.shown :: PyData.shownAll ds by simp only [PyData.shownAll]]
  exact .cons q1 q2
/-- the list, the tuple, the dict: what its repr needs -/
theorem list_parts {P : Program} {w : World} {h : Heap} {us : List Value} {ds : List PyData} {a : Addr} {o : Obj} {n : Nat} (h1 : h.get? a = some o) (h2 : o.cls = .type "list") (h3 : o.data = .seq us.toArray n) (b : ShAll P w h us ds)
    (hs : (PyData.list ds).showable = true) (hz : (PyData.list ds).shown.length ≤ sizeLine) :
    ∃ bs, a ∉ bs ∧ ReadAtMost h (PyData.depthAll ds) bs ∧ ReprAllK P w bs h (PyData.depthAll ds) us (PyData.shownAll ds) := by
  have hz' : (listText (PyData.shownAll ds)).length ≤ sizeLine := by simpa only [PyData.shown] using hz
  obtain ⟨⟨as, ra⟩, f⟩ := b
  obtain ⟨bs, hb, hk⟩ := f (by simpa [PyData.showable] using hs) (fun t ht => Nat.le_trans (listText_mem_le ht) hz')
  exact ⟨bs, not_mem_of_deeper (Reads.list h1 h2 h3 (by simpa using ra)) (by simp only [PyData.depth]; omega) hb, hb, hk⟩
theorem tup_parts {P : Program} {w : World} {h : Heap} {us : List Value} {ds : List PyData} {a : Addr} {o : Obj} {n : Nat} (h1 : h.get? a = some o) (h2 : o.cls = .type "tuple") (h3 : o.data = .seq us.toArray n) (b : ShAll P w h us ds)
    (hs : (PyData.tuple ds).showable = true) (hz : (PyData.tuple ds).shown.length ≤ sizeLine) :
    ∃ bs, a ∉ bs ∧ ReadAtMost h (PyData.depthAll ds) bs ∧ ReprAllK P w bs h (PyData.depthAll ds) us (PyData.shownAll ds) := by
  have hz' : (tupleText (PyData.shownAll ds)).length ≤ sizeLine := by simpa only [PyData.shown] using hz
  obtain ⟨⟨as, ra⟩, f⟩ := b
  obtain ⟨bs, hb, hk⟩ := f (by simpa [PyData.showable] using hs) (fun t ht => Nat.le_trans (tupleText_mem_le ht) hz')
  exact ⟨bs, not_mem_of_deeper (Reads.tuple h1 h2 h3 (by simpa using ra)) (by simp only [PyData.depth]; omega) hb, hb, hk⟩
theorem dct_parts {P : Program} {w : World} {h : Heap} {es : Array DictEntry} {kvs : List (PyData × PyData)} {a : Addr} {o : Obj} {n : Nat} (h1 : h.get? a = some o) (h2 : o.cls = .type "dict") (h3 : o.data = .dict es n)
    (b : ShAll P w h (es.toList.map (·.key)) (kvs.map (·.1))) (c : ShAll P w h (es.toList.map (·.val)) (kvs.map (·.2))) (hs : (PyData.dict kvs).showable = true) (hz : (PyData.dict kvs).shown.length ≤ sizeLine) :
    ∃ bs, a ∉ bs ∧ ReadAtMost h (PyData.depthKv kvs) bs ∧ ReprEntriesK P w bs h (PyData.depthKv kvs) es.toList (PyData.shownKv kvs) := by
  have hz' : (dictText (PyData.shownKv kvs)).length ≤ sizeLine := by simpa only [PyData.shown] using hz
  obtain ⟨⟨as, ra⟩, f⟩ := b
  obtain ⟨⟨cs, rc⟩, g⟩ := c
  obtain ⟨s1, s2⟩ := PyData.showableKv_split kvs (by simpa [PyData.showable] using hs)
  obtain ⟨b1, m1, k1⟩ := f s1 (fun t ht => let ⟨p, hp, hl⟩ := PyData.shownKv_key_le kvs t ht; Nat.le_trans hl (Nat.le_trans (dictText_mem_le hp) hz'))
  obtain ⟨b2, m2, k2⟩ := g s2 (fun t ht => let ⟨p, hp, hl⟩ := PyData.shownKv_val_le kvs t ht; Nat.le_trans hl (Nat.le_trans (dictText_mem_le hp) hz'))
  have hb : ReadAtMost h (PyData.depthKv kvs) (b1 ++ b2) := (m1.mono (PyData.depthAll_keys_le kvs)).append (m2.mono (PyData.depthAll_vals_le kvs))
  refine ⟨b1 ++ b2, not_mem_of_deeper (Reads.dict h1 h2 h3 ra rc) (by simp only [PyData.depth]; omega) hb, hb, ?_⟩
  rw [PyData.shownKv_eq]
  exact ReprEntriesK.of_two es.toList _ _ (k1.more_le (fun b hb => List.mem_append_left _ hb) (PyData.depthAll_keys_le kvs)) (k2.more_le (fun b hb => List.mem_append_right _ hb) (PyData.depthAll_vals_le kvs))
theorem sh_list {P : Program} {w : World} {h : Heap} {us : List Value} {ds : List PyData} {a : Addr} {o : Obj} {n : Nat} (h1 : h.get? a = some o) (h2 : o.cls = .type "list") (h3 : o.data = .seq us.toArray n) (b : ShAll P w h us ds) : Sh P w h (.ref a) (.list ds) := by
  have r : ∃ as, Reads h (.ref a) (.list ds) as := by obtain ⟨⟨as, ra⟩, _⟩ := b; exact ⟨_, .list h1 h2 h3 (by simpa using ra)⟩
  refine ⟨r, fun hs hz => ?_⟩
  obtain ⟨as, r⟩ := r
  obtain ⟨bs, hna, hb, hk⟩ := list_parts h1 h2 h3 b hs hz
  refine ⟨a :: bs, ReadAtMost.cons r (by simp only [PyData.depth]; omega) hb, ?_⟩
  simp only [PyData.depth, PyData.shown]
  cases us with
  | nil =>
    have e : ds = [] := by cases ds with
      | nil => rfl
      | cons _ _ => have := hk.length_eq; simp [PyData.shownAll] at this
    subst e
    simp only [PyData.shownAll, listText_nil]
    exact ReprK.listEmpty h1 h2 h3
  | cons x l => exact ReprK.list h1 h2 h3 hna (by simpa using hk.length_eq) (fun i y e => hk.item i y (by simpa using e))
theorem sh_tup {P : Program} {w : World} {h : Heap} {us : List Value} {ds : List PyData} {a : Addr} {o : Obj} {n : Nat} (h1 : h.get? a = some o) (h2 : o.cls = .type "tuple") (h3 : o.data = .seq us.toArray n) (b : ShAll P w h us ds) : Sh P w h (.ref a) (.tuple ds) := by
  have r : ∃ as, Reads h (.ref a) (.tuple ds) as := by obtain ⟨⟨as, ra⟩, _⟩ := b; exact ⟨_, .tuple h1 h2 h3 (by simpa using ra)⟩
  refine ⟨r, fun hs hz => ?_⟩
  obtain ⟨as, r⟩ := r
  obtain ⟨bs, hna, hb, hk⟩ := tup_parts h1 h2 h3 b hs hz
  refine ⟨a :: bs, ReadAtMost.cons r (by simp only [PyData.depth]; omega) hb, ?_⟩
  simp only [PyData.depth, PyData.shown]
  exact ReprK.tuple h1 h2 h3 hna (by simpa using hk)
theorem sh_dct {P : Program} {w : World} {h : Heap} {es : Array DictEntry} {kvs : List (PyData × PyData)} {a : Addr} {o : Obj} {n : Nat} (h1 : h.get? a = some o) (h2 : o.cls = .type "dict") (h3 : o.data = .dict es n) (ns : (a == sysModules) = false)
    (b : ShAll P w h (es.toList.map (·.key)) (kvs.map (·.1))) (c : ShAll P w h (es.toList.map (·.val)) (kvs.map (·.2))) : Sh P w h (.ref a) (.dict kvs) := by
  have r : ∃ as, Reads h (.ref a) (.dict kvs) as := by obtain ⟨⟨_, ra⟩, _⟩ := b; obtain ⟨⟨_, rc⟩, _⟩ := c; exact ⟨_, .dict h1 h2 h3 ra rc⟩
  refine ⟨r, fun hs hz => ?_⟩
  obtain ⟨as, r⟩ := r
  obtain ⟨bs, hna, hb, hk⟩ := dct_parts h1 h2 h3 b c hs hz
  refine ⟨a :: bs, ReadAtMost.cons r (by simp only [PyData.depth]; omega) hb, ?_⟩
  simp only [PyData.depth, PyData.shown]
  exact ReprK.dict h1 h2 h3 ns hna hk
theorem sh_flat (I : Inv X pins σ H s) {v : V} {d : PyData} {u : Value} (h : Dp X.K H v d) (r : RelV v u) : Sh X.prog X.w s.heap u d := by
  obtain ⟨as, rd⟩ := Dp.reads I d v u h r
  have nd := (VG.dp_noDict X.K H).1 d v h
  exact ⟨⟨as, rd⟩, fun hs hz => ReprK.of_reads rd hs (fun e => by rw [nd] at e; cases e) hz⟩
theorem sh_keys {P : Program} {w : World} {h : Heap} : ∀ {es : List DictEntry} {vs : List (Key × Value)}, Pairs (mixKind P w) es vs → ShAll P w h (es.map (·.key)) (vs.map fun e => kD e.1)
  | _, _, .nil => .nil
  | _, _, .cons (e := e) (kv := kv) h1 _ t => by
    refine ShAll.cons ?_ (sh_keys t)
    rcases keyIs_shape (show keyIs kv.1 e.key = true from h1) with ⟨i, t, e1, e2⟩ | ⟨x, t, e1, e2⟩
    · show Sh P w h e.key (kD kv.1)
      rw [e1, e2]
      exact ⟨⟨_, Reads.int i t⟩, fun hs hz => ReprK.of_reads (Reads.int i t) hs (fun e => by cases e) hz⟩
    · show Sh P w h e.key (kD kv.1)
      rw [e1, e2]
      exact ⟨⟨_, Reads.str x t⟩, fun hs hz => ReprK.of_reads (Reads.str x t) hs (fun e => by cases e) hz⟩
theorem pairs_val {P : Program} {w : World} : ∀ {es : List DictEntry} {vs : List (Key × Value)}, Pairs (mixKind P w) es vs → es.map (·.val) = vs.map (·.2)
  | _, _, .nil => rfl
  | _, _, .cons _ h2 t => by rw [List.map_cons, List.map_cons, h2, pairs_val t]
theorem kv_keys : ∀ {kvs : List (Key × V)} {vs : List (Key × Value)}, KV kvs vs → kvs.map (fun e => kD e.1) = vs.map (fun e => kD e.1)
  | _, _, .nil => rfl
  | _, _, .cons h t => by rw [List.map_cons, List.map_cons, h.1, kv_keys t]
theorem kv_vals : ∀ {kvs : List (Key × V)} {vs : List (Key × Value)}, KV kvs vs → Vals (kvs.map (·.2)) (vs.map (·.2))
  | _, _, .nil => .nil
  | _, _, .cons h t => .cons h.2 (kv_vals t)
mutual
theorem Dm.sh (I : Inv X pins σ H s) : ∀ {v : V} {d : PyData} {u : Value}, Dm X.K H v d → RelV v u → Sh X.prog X.w s.heap u d
  | _, _, _, .flat h, r => sh_flat I h r
  | _, _, _, .lst hs ha, r => by
    cases r
    obtain ⟨its, rv, ⟨o, n, ho, hc, _, hd⟩, _⟩ := I.list hs
    exact sh_list ho hc hd (DmAll.sh I ha rv)
  | _, _, _, .tup hs ha, r => by
    cases r
    obtain ⟨its, rv, ⟨o, ho, hc, n, hd⟩, _⟩ := I.tuple hs
    exact sh_tup ho hc hd (DmAll.sh I ha rv)
  | _, _, _, .dct (kvs := kvs) (ds := ds) he ha, r => by
    cases r
    obtain ⟨_, ns, vs, kv, o, es, ep, e1, e2, e3, e4, e5, e6⟩ := (show ObjOk X.prog X.w H s.heap _ (.dK kvs) from I.hok _ _ he)
    have hl : (kvs.map (·.2)).length = ds.length := ha.length
    rw [List.length_map] at hl
    have z1 : ((kvs.map fun e => kD e.1).zip ds).map (·.1) = kvs.map fun e => kD e.1 := by
      rw [List.map_fst_zip]; rw [List.length_map]; omega
    have z2 : ((kvs.map fun e => kD e.1).zip ds).map (·.2) = ds := by
      rw [List.map_snd_zip]; rw [List.length_map]; omega
    refine sh_dct e1 e2.1 e3 ns ?_ ?_
    · rw [z1, kv_keys kv]; exact sh_keys e5
    · rw [z2, pairs_val e5]; exact DmAll.sh I ha (kv_vals kv)
theorem DmAll.sh (I : Inv X pins σ H s) : ∀ {vs : List V} {ds : List PyData} {us : List Value}, DmAll X.K H vs ds → Vals vs us → ShAll X.prog X.w s.heap us ds
  | _, _, _, .nil, r => by cases r; exact .nil
  | _, _, _, .cons h hs, r => by
    cases r with
    | cons r rs => exact .cons (Dm.sh I h r) (DmAll.sh I hs rs)
end
end
def rReprM (K : PySem.W.Frag) : List V → Hp → VK → Prop := fun xs H Q =>
  ∃ v d, xs = [v] ∧ Dm K H v d ∧ d.showable = true ∧ d.depth ≤ 60 ∧ d.shown.length ≤ sizeLine ∧ Q (.str d.shown) H
theorem call_reprM {X : Cx} (hg : X.A.guards = some []) (hu : X.A.units + 64 < cLine) : CallR X (.builtin "repr") (rReprM X.K) := by
  intro pins s σ H xs us Q I r h
  obtain ⟨v, d, rfl, hd, hs, hdep, hz, q⟩ := h
  have keep : ∀ (h' : Heap) (t' : Nat), (∀ b o, s.heap.get? b = some o → h'.get? b = some o) → Inv X pins σ H { s with heap := h', toks := t' } :=
    fun h' t' k => I.kept (t' := t') k
  cases hd with
  | flat hd => exact VG.call_repr hg hu pins s σ H _ us Q I r ⟨v, d, rfl, hd, hs, hdep, hz, q⟩
  | lst hl ha =>
    obtain ⟨u, rfl, rv⟩ := vals1 r
    cases rv
    rename_i a xs ds
    obtain ⟨its, rv, ⟨o, n, ho, hc, hp, hd⟩, _⟩ := I.list hl
    obtain ⟨bs, hna, hb, hk⟩ := list_parts ho hc hd (DmAll.sh I ha rv) hs hz
    refine call_repr_slot (by omega) (show s.TypeIs (.ref a) "list" from ⟨o, ho, hc⟩) F.slot_list_repr.toG ?_
    simp only [PyData.depth] at hdep
    simp only [PyData.shown] at q hz
    cases its with
    | nil =>
      have e : ds = [] := by cases ds with
        | nil => rfl
        | cons _ _ => have := hk.length_eq; simp [PyData.shownAll] at this
      subst e
      simp only [PyData.shownAll, listText_nil] at q
      exact call_list_repr_empty ⟨o, ho, hc⟩ ho hd ⟨_, _, rfl, .str _, H, keep s.heap _ fun _ _ e => e, ⟨_, rfl⟩, q⟩
    | cons x l => exact call_list_reprK ho hc hd hna (by simpa using hk.length_eq) (fun i y e => hk.item i y (by simpa using e)) hg (fun b _ => Clear.nil b) (by show X.A.units + 1 + _ < cLine; omega) (fun _ _ e => e) (fun h' u tk k => ⟨_, _, rfl, .str _, H, keep h' tk k, ⟨_, rfl⟩, q⟩) hz
  | tup hl ha =>
    obtain ⟨u, rfl, rv⟩ := vals1 r
    cases rv
    rename_i a xs ds
    obtain ⟨its, rv, ⟨o, ho, hc, n, hd⟩, _⟩ := I.tuple hl
    obtain ⟨bs, hna, hb, hk⟩ := tup_parts ho hc hd (DmAll.sh I ha rv) hs hz
    refine call_repr_slot (by omega) (show s.TypeIs (.ref a) "tuple" from ⟨o, ho, hc⟩) F.slot_tuple_repr ?_
    simp only [PyData.depth] at hdep
    simp only [PyData.shown] at q hz
    exact call_tuple_reprK ho hc hd hna (by simpa using hk) hg (fun b _ => Clear.nil b) (by show X.A.units + 1 + _ < cLine; omega) (fun _ _ e => e) (fun h' u tk k => ⟨_, _, rfl, .str _, H, keep h' tk k, ⟨_, rfl⟩, q⟩) hz
  | dct he ha =>
    obtain ⟨u, rfl, rv⟩ := vals1 r
    have sh := Dm.sh I (.dct he ha) rv
    cases rv
    rename_i a kvs ds
    obtain ⟨_, ns, vs, kv, o, es, ep, e1, e2, e3, e4, e5, e6⟩ := (show ObjOk X.prog X.w H s.heap _ (.dK kvs) from I.hok _ _ he)
    have hl : (kvs.map (·.2)).length = ds.length := ha.length
    rw [List.length_map] at hl
    have z1 : ((kvs.map fun e => kD e.1).zip ds).map (·.1) = kvs.map fun e => kD e.1 := by
      rw [List.map_fst_zip]; rw [List.length_map]; omega
    have z2 : ((kvs.map fun e => kD e.1).zip ds).map (·.2) = ds := by
      rw [List.map_snd_zip]; rw [List.length_map]; omega
    obtain ⟨bs, hna, hb, hk⟩ := dct_parts e1 e2.1 e3 (by rw [z1, kv_keys kv]; exact sh_keys e5) (by rw [z2, pairs_val e5]; exact DmAll.sh I ha (kv_vals kv)) hs hz
    refine call_repr_slot (by omega) (show s.TypeIs (.ref a) "dict" from ⟨o, e1, e2.1⟩) F.slot_dict_repr ?_
    simp only [PyData.depth] at hdep
    simp only [PyData.shown] at q hz
    exact call_dict_reprK e1 e2.1 e3 ns hna hk hg (fun b _ => Clear.nil b) (by show X.A.units + 1 + _ < cLine; omega) (fun _ _ e => e) (fun h' u tk k => ⟨_, _, rfl, .str _, H, keep h' tk k, ⟨_, rfl⟩, q⟩) hz
end VQ

/-! an int or a bool minus an int, and its minus; a list beside an empty one. -/
namespace VB
open PySem PySem.Spec PyProof.Rows L2
theorem sub_bi (a : Bool) (b : Int) (u : Tok) : Gives (Builtin.«int.__sub__» ⟨[.bool a, .int b u], []⟩) (.int ((if a = true then (1 : Int) else 0) - b)) :=
  .of_wp fun M A E s Q h => by obtain ⟨hp, g, d, tk, os⟩ := s; wp_walk; exact ⟨_, rfl, h⟩
theorem neg_b (a : Bool) : Gives (Builtin.«int.__neg__» ⟨[.bool a], []⟩) (.int (-(if a = true then (1 : Int) else 0))) :=
  .of_wp fun M A E s Q h => by obtain ⟨hp, g, d, tk, os⟩ := s; wp_walk; exact ⟨_, rfl, h⟩
/-- the int that an int or a bool is -/
def nI : V → Option Int
  | .int i => some i
  | .bl b => some (if b = true then 1 else 0)
  | _ => none
section
variable {X : Cx}
theorem op_subI : OpR X (binaryOp .Sub) (fun x y H Q => ∃ i j, nI x = some i ∧ y = .int j ∧ Q (.int (i - j)) H) := by
  intro pins s σ H x y v u Q I rx ry h
  obtain ⟨i, j, hx, rfl, q⟩ := h
  obtain ⟨t, rfl⟩ := ry
  cases x <;> try (cases hx; done)
  · rename_i b
    obtain rfl := Option.some.inj hx
    cases rx
    exact binaryOp_left_gives (op := .Sub) (T := "bool") (U := "int") (by decide) (PySem.typeIs_bool s b) (fun s' => PySem.typeIs_int s' j t) F.fills_bool_sub F.fills_int_sub F.sub_int_bool F.slot_bool_sub F.slot_int_rsub F.entry_int_sub (F.args_int_sub_2 _ _)
      (sub_bi b j t) trivial ⟨.int _, H, I.tok _, ⟨_, rfl⟩, q⟩
  · obtain rfl := Option.some.inj hx
    obtain ⟨t', rfl⟩ := rx
    exact P.sub_int ⟨.int _, H, I.tok _, ⟨_, rfl⟩, q⟩
theorem un_negI : UnR X (unaryOp .USub) (fun x H Q => ∃ i, nI x = some i ∧ Q (.int (-i)) H) := by
  intro pins s σ H x v Q I rx h
  obtain ⟨i, hx, q⟩ := h
  cases x <;> try (cases hx; done)
  · rename_i b
    obtain rfl := Option.some.inj hx
    cases rx
    exact unaryOp_gives (op := .USub) (PySem.typeIs_bool s b) rfl F.slot_bool_neg F.entry_int_neg (F.args_int_neg_1 _) (neg_b b) ⟨.int _, H, I.tok _, ⟨_, rfl⟩, q⟩
  · obtain rfl := Option.some.inj hx
    obtain ⟨t', rfl⟩ := rx
    exact P.neg_int ⟨.int _, H, I.tok _, ⟨_, rfl⟩, q⟩
/-- a list != [] -/
theorem op_neNil (hu : X.A.units + 64 < cLine) : OpR X (compareOp .NotEq) (fun x y H Q => ∃ a b xs, x = .ref a ∧ y = .ref b ∧ SqL X.K H a xs ∧ SqL X.K H b [] ∧ Q (.bl (decide (xs ≠ []))) H) := by
  intro pins s σ H x y v u Q I rx ry h
  obtain ⟨a, b, xs, rfl, rfl, ha, hb, q⟩ := h
  cases rx
  cases ry
  obtain ⟨us, r1, p1, _⟩ := I.list ha
  obtain ⟨ws, r2, p2, _⟩ := I.list hb
  cases r2
  have n1 := r1.length
  by_cases e : xs = []
  · subst e
    cases r1
    have k := SeqAt.RcNeAt.lists (A := X.A) (s := s) (e := fun _ => true) p1.isList p2.isList rfl (by omega) (fun j j1 j2 => absurd j1 (by simp))
    refine k _ _ _ _ ?_
    exact ⟨.bl _, H, I, rfl, q⟩
  · have k := SeqAt.RcNeAt.lists_lengths (A := X.A) (s := s) p1.isList p2.isList (by
      cases us with
      | nil => exact absurd (List.length_eq_zero_iff.mp (by rw [n1]; rfl)) e
      | cons _ _ => simp) (by omega)
    refine k _ _ _ _ ⟨.bl true, H, I, rfl, ?_⟩
    rw [decide_eq_true e] at q
    exact q
end
end VB

/-! Several except clauses, each with a name. -/
namespace VTm
open PySem PySem.Spec PyProof.Rows L2
/-- the ends behind a suite whose name goes -/
def Dn (D : Ends) (i : Nat) : Ends := { nx := fun τ G => D.nx (τ.set i none) G, rt := D.rt, bk := fun τ G => D.bk (τ.set i none) G, ct := fun τ G => D.ct (τ.set i none) G }
/-- what the clauses want of an error of the body, one behind another -/
def wAsM (K : PySem.W.Frag) (W0 : WX) (D : Ends) : List (Value × Nat × (Addr → Value → Option Addr → TS)) → WX
  | [] => W0
  | (c, i, t) :: r => fun cls d σ H => ∃ b, PySem.W.exmOne K cls c = some b ∧ (b = true → ∀ a, H a = none → t a cls d (Dn D i) (σ.set i (some (.ref a))) H) ∧ (b = false → wAsM K W0 D r cls d σ H)
inductive HdsAs (X : Cx) : List ExceptHandler → List (Value × Nat × (Addr → Value → Option Addr → TS)) → Prop
  | nil : HdsAs X [] []
  | cons {x n : Str} {c : Value} {i : Nat} {t : Addr → Value → Option Addr → TS} {b0 : Stmt} {more : List Stmt} {np pc : Pos} {hds : List ExceptHandler} {l : List (Value × Nat × (Addr → Value → Option Addr → TS))}
      (hi : X.N[i]? = some n) (hln : X.env.kindOf n = some .local) (hc : Names X x c)
      (hsu : ∀ (a : Addr) (oe : Obj) (cls : Value) (d : Option Addr) (pn : List (Addr × Obj)), Zc cls d oe → (∃ vs, oe.data = .fields vs) → PSs (X.suite a ((a, oe) :: pn)) (b0 :: more) (t a cls d)) (r : HdsAs X hds l) :
      HdsAs X (.ExceptHandler (some (.Name x np)) (some n) (b0 :: more) pc :: hds) ((c, i, t) :: l)
section
variable {X : Cx} {body : List Stmt} {h0 : ExceptHandler} {hds : List ExceptHandler} {l : List (Value × Nat × (Addr → Value → Option Addr → TS))} {pos : Pos} {tb : WX → TS} {W0 : WX}
theorem ps_try_asM (st : X.stack = X.env :: X.outer) (fr : X.env.frame = some X.env.locals) (nodup : X.N.Nodup) (tk : Takes X W0)
    (hb : ∀ (W : WX) (pn : List (Addr × Obj)) (xe : Value → Shared → Prop), Takes (X.tr pn xe) W → PassesOwn (model X.prog X.w) X.A X.env xe → PSs (X.tr pn xe) body (tb W))
    (hh : HdsAs X (h0 :: hds) l) : PS X (.Try body (h0 :: hds) [] [] pos) (fun D σ H => tb (wAsM X.K W0 D l) D σ H) := by
  refine ⟨fun pins s σ H D I h => ?_⟩
  have ok := I.ok
  have frs0 : X.A.frames = some (X.env :: X.outer) := by rw [ok.frames, st]
  refine wpAny_Try_except (wpAny_mono ((hb (wAsM X.K W0 D l) (X.pn ++ pins) (fun er s1 => wpAny (model X.prog X.w) X.A (noteFrame er X.env) (fun _ s2 => wpAny (model X.prog X.w) X.A (setFlight er none) (fun _ s3 =>
    wpAny (model X.prog X.w) X.A (handleBy er X.env (h0 :: hds)) (SP X pins D) X.xe s3) X.xe s2) X.xe s1) (fun u s' xx => ?_) PassesOwn.looking).run [] s σ H D (I.toTry _) h) (fun f s1 done => ?_) (fun er s1 z => z))
  · obtain ⟨a, B, sI, ps', τ, G, cls, d, rfl, J0, nb, up, sky0, na, os, ag, w⟩ := xx
    have J : Inv X pins τ G sI := J0.ofTry ok
    have sky : Sky B (X.env :: X.outer) a (Zc cls d) X.env.locals s'.heap := by rw [← st]; exact sky0
    show wpAny (model X.prog X.w) X.A (noteFrame (.ref a) X.env) _ _ _
    refine Sky.land Zc.steady frs0 fr sky fun g3 fl up3 => ?_
    have J3 : Inv X pins τ G { s' with heap := g3 } := J.landed nb fl.1 (up.trans up3) os ag
    obtain ⟨oe3, vs3, at3, z3, dt3⟩ := fl.there
    have nfr : a ∉ frs (X.env :: X.outer) := fun hm => by
      obtain ⟨_, o', e', nf⟩ := fl.2.2.1.mem hm
      rw [at3] at e'; cases e'
      exact nf _ dt3
    have nL : a ≠ X.env.locals := fun z => nfr (List.mem_filterMap.mpr ⟨X.env, List.mem_cons_self, by rw [fr, z]⟩)
    have nF : a ∉ X.fs := fun hm => by
      obtain ⟨en, hen, q⟩ := List.mem_filterMap.mp hm
      exact nfr (List.mem_filterMap.mpr ⟨en, List.mem_cons_of_mem _ hen, q⟩)
    have S3 := J3.suite at3 dt3 na nL nF
    have go : ∀ {hs2 : List ExceptHandler} {l2 : List (Value × Nat × (Addr → Value → Option Addr → TS))}, HdsAs X hs2 l2 → wAsM X.K W0 D l2 cls d τ G →
        wpAny (model X.prog X.w) X.A (handleBy (.ref a) X.env hs2) (SP X pins D) X.xe { s' with heap := g3 } := by
      intro hs2 l2 hk
      induction hk with
      | nil =>
        intro w
        refine wpAny_handleBy_nil ?_
        obtain ⟨k1, k2, k3, oe, vs, T, oT, ts', he, hz, hd, h1, hr⟩ := id fl
        unfold PySem.passOn
        refine wpAny_bind (wpAny_field he hd h1 ?_)
        rw [if_neg (show ¬ ((Value.ref T == Value.none) = true) from by simp)]
        have fin : wpAny (model X.prog X.w) X.A (setFlight (.ref a) X.env.frame) (fun _ s4 => wpAny (model X.prog X.w) X.A (throw (.ref a) : Sem Flow) (SP X pins D) X.xe s4) X.xe { s' with heap := g3 } := by
          rw [fr]
          refine HandSPX.setFlight_upZ fl fun g4 hh4 up4 => wpAny_throw (tk _ _ ?_)
          exact ⟨a, B, sI, pins, τ, G, cls, d, rfl, J, nb, (up.trans up3).trans up4, .inr (.inr (by rw [st]; exact hh4)), na, os, ag, w⟩
        first
          | exact wpAny_bind (wpAny_pure (wpAny_bind fin))
          | exact wpAny_bind fin
      | @cons x n c i t b0 more np pc hds2 l3 hi hln hc hsu r ih =>
        intro w
        obtain ⟨b, same, yes, no⟩ := w
        refine wpAny_handleBy_cons (codeAny_handlers_test ?_) (by intro q; cases q)
        have LT : PySem.W.Looks (model X.prog X.w) g3 (typeOf (.ref a)) cls := fun A Q E s k q => wpAny_typeOf_ref (k _ _ at3) (by rw [z3.1]; exact q)
        have LM := PySem.W.exm_one (M := model X.prog X.w) (J3.kIn) LT same
        have test : ∀ {Q : Value → Shared → Prop} {E : Value → Shared → Prop}, Q c { s' with heap := g3 } → wpAny (model X.prog X.w) (X.A.mark (some (.ref a))) (eval (.Name x np) X.env) Q E { s' with heap := g3 } := fun {Q E} q => by
          obtain ⟨hg, hdbg, hm | ⟨hm, hv, hnn⟩⟩ := hc
          · exact ld_glob (X := X.suite a ((a, oe3) :: (X.pn ++ pins))) S3 hg hm q hdbg
          · exact ld_blt (X := X.suite a ((a, oe3) :: (X.pn ++ pins))) S3 hg hm hv q hnn hdbg
        refine test (LM.here ?_)
        cases b with
        | true =>
          refine codeAny_handlers_suite_as (HandSPX.lands_againZ fl fun g4 fl4 up4 => ?_)
          have J4 : Inv X pins τ G { s' with heap := g4 } := J.landed nb fl4.1 ((up.trans up3).trans up4) os ag
          obtain ⟨oe4, vs4, at4, z4, dt4⟩ := fl4.there
          have S4 := J4.suite at4 dt4 na nL nF
          refine store_ok (X := X.suite a ((a, oe4) :: (X.pn ++ pins))) (v := .ref a) S4 nodup hi (.inl hln) rfl (fun s5 S5 => ?_) (.inr hln)
          refine wpAny_mono ((hsu a oe4 cls d (X.pn ++ pins) z4 ⟨_, dt4⟩).run [] s5 _ G _ S5 (yes rfl a na)) (fun f s6 hsp => ?_) (fun _ _ z => False.elim z)
          have ends : ∀ {σ6 : L2.St} {H6 : Hp} {Q : Shared → Prop}, Inv (X.suite a ((a, oe4) :: (X.pn ++ pins))) [] σ6 H6 s6 → (∀ s7, Inv X pins (σ6.set i none) H6 s7 → Q s7) →
              wpAny (model X.prog X.w) X.A (do bindName X.env n .none; unbindBehindTheSuite X.env n pc) (fun _ s7 => Q s7) X.xe s6 := fun {σ6 H6 Q} S6 hq => gone_ok (S6.unsuite ok) nodup hi hln hq
          match f, hsp with
          | .next, ⟨σ6, H6, S6, q6⟩ => exact ends S6 fun s7 J7 => ⟨_, _, J7, q6⟩
          | .brk, ⟨σ6, H6, S6, q6⟩ => exact ends S6 fun s7 J7 => ⟨_, _, J7, q6⟩
          | .cont, ⟨σ6, H6, S6, q6⟩ => exact ends S6 fun s7 J7 => ⟨_, _, J7, q6⟩
          | .ret u, ⟨v6, σ6, H6, S6, r6, q6⟩ => exact ends S6 fun s7 J7 => ⟨_, _, _, J7, r6, q6⟩
        | false =>
          show wpAny _ X.A (handleBy (.ref a) X.env hds2) _ _ _
          exact ih (no rfl)
    exact go hh w
  · match f, done with
    | .next, ⟨τ, G, J0, q⟩ => exact wpAny_execs_nil ⟨τ, G, J0.ofTry ok, q⟩
    | .brk, ⟨τ, G, J0, q⟩ => exact ⟨τ, G, J0.ofTry ok, q⟩
    | .cont, ⟨τ, G, J0, q⟩ => exact ⟨τ, G, J0.ofTry ok, q⟩
    | .ret u, ⟨v, τ, G, J0, r, q⟩ => exact ⟨v, τ, G, J0.ofTry ok, r, q⟩
end
/-- e.f of a caught error, whatever its class -/
def tXfG (K : PySem.W.Frag) (a : Addr) (cls : Value) (d : Option Addr) (f : Str) (te : TE) : TE := fun σ H Q => te σ H fun x H1 => x = .ref a ∧ ∃ C, cls = .ref C ∧ XfC K C ∧ PySem.W.findIn K (.ref C) f = some none ∧
  ∃ (dd : Addr) (fs : List (Str × V)) (v : V), d = some dd ∧ H1 dd = some (.xd fs) ∧ fs.lookup f = some v ∧ Q v H1
theorem pe_xfG {X : Cx} {a : Addr} {oe : Obj} {cls : Value} {d : Option Addr} {pn : List (Addr × Obj)} {e : Expr} {te : TE} {pos : Pos} {f : Str} (hz : Zc cls d oe) (hf : ∃ vs, oe.data = .fields vs) (he : PE (X.suite a ((a, oe) :: pn)) e te)
    (hb : attributeBase e f X.env (eval e X.env) = eval e X.env := by rfl) : PE (X.suite a ((a, oe) :: pn)) (.Attribute e f pos) (tXfG X.K a cls d f te) := by
  refine ⟨fun pins s σ H Q I h => attr_of hb (thn (he.run pins s σ H _ I h) fun u s1 hh => ?_)⟩
  obtain ⟨x, H1, I1, rx, ex, C, ec, T, no, dd, fs, v, ed, ea, l, q⟩ := hh
  subst ex ec ed
  obtain rfl : u = Value.ref a := rx
  obtain ⟨there, _⟩ := I1.pin (a, oe) (List.mem_append_left _ List.mem_cons_self)
  obtain ⟨vs, hd⟩ := hf
  have low : ObjOk X.prog X.w H1 s1.heap dd (.xd fs) := I1.hok dd _ ea
  obtain ⟨mA, hns, hr⟩ := low
  obtain ⟨od, ho, hl⟩ := lookIn_ns hns
  obtain ⟨u, hu, ru⟩ := RelO.some_of (v := v) (o := mA f) (by rw [← l]; exact hr f)
  have J : PySem.W.InstAt s1.heap a oe C (some od) := ⟨there, hz.1, by unfold PySem.W.notCls; rw [hd] <;> rfl, by rw [hz.2]; exact ho⟩
  exact HandSPX.exc_get I1.kIn J T.ga T.gg T.exC (PySem.W.findObj_own T.hdC no rfl (by rw [hl, hu])) (handed_of ru) ⟨v, H1, I1.tok _, ru, q⟩
/-- isinstance(e, c) of a caught error, whatever its class -/
def rAskG (K : PySem.W.Frag) (a : Addr) (cls : Value) (d : Option Addr) : List V → Hp → VK → Prop := fun xs H Q => ∃ D, VX.Asked K D ∧ VX.rAsk K a cls d D xs H Q
theorem call_askG {X : Cx} {a : Addr} {oe : Obj} {cls : Value} {d : Option Addr} {pn : List (Addr × Obj)} (hz : Zc cls d oe) (hf : ∃ vs, oe.data = .fields vs) : CallR (X.suite a ((a, oe) :: pn)) (.builtin "isinstance") (rAskG X.K a cls d) := by
  intro pins s σ H xs us Q I r h
  obtain ⟨D, C, h⟩ := h
  exact VX.call_ask C hz hf pins s σ H xs us Q I r h
end VTm

namespace VK
open PySem PySem.Spec PyProof.Rows L2 VM
def top (i : Nat) : Stmt := PySem.Challenge.pw_dueways_k28_refused_in_stage_two.main.body.getD i (.Pass ⟨0, 0, 0, 0⟩)
abbrev s_InvalidLength_init : Stmt := inClass (top 5) 0
theorem sc_InvalidLength_init : FnScope ["self", "value"] ["self", "value"] (defScope s_InvalidLength_init) := ⟨rfl, rfl, rfl, by decide +kernel, rfl, by decide +kernel, by decide +kernel⟩
abbrev s_InvalidCount_init : Stmt := inClass (top 6) 0
theorem sc_InvalidCount_init : FnScope ["self", "value"] ["self", "value"] (defScope s_InvalidCount_init) := ⟨rfl, rfl, rfl, by decide +kernel, rfl, by decide +kernel, by decide +kernel⟩
abbrev s_InvalidRecord_init : Stmt := inClass (top 7) 0
theorem sc_InvalidRecord_init : FnScope ["self", "position"] ["self", "position"] (defScope s_InvalidRecord_init) := ⟨rfl, rfl, rfl, by decide +kernel, rfl, by decide +kernel, by decide +kernel⟩
abbrev s_NotGood_init : Stmt := inClass (top 9) 0
theorem sc_NotGood_init : FnScope ["self", "first", "second"] ["self", "first", "second"] (defScope s_NotGood_init) := ⟨rfl, rfl, rfl, by decide +kernel, rfl, by decide +kernel, by decide +kernel⟩
abbrev s_is_integer : Stmt := top 12
theorem sc_is_integer : FnScope ["value"] ["value"] (defScope s_is_integer) := ⟨rfl, rfl, rfl, by decide +kernel, rfl, by decide +kernel, by decide +kernel⟩
abbrev s_is_count : Stmt := top 13
theorem sc_is_count : FnScope ["value"] ["value"] (defScope s_is_count) := ⟨rfl, rfl, rfl, by decide +kernel, rfl, by decide +kernel, by decide +kernel⟩
abbrev s_is_count_to : Stmt := top 14
theorem sc_is_count_to : FnScope ["value", "most"] ["value", "most"] (defScope s_is_count_to) := ⟨rfl, rfl, rfl, by decide +kernel, rfl, by decide +kernel, by decide +kernel⟩
abbrev s_require_count : Stmt := top 15
theorem sc_require_count : FnScope ["value"] ["value"] (defScope s_require_count) := ⟨rfl, rfl, rfl, by decide +kernel, rfl, by decide +kernel, by decide +kernel⟩
abbrev s_require_count_to : Stmt := top 16
theorem sc_require_count_to : FnScope ["value", "most"] ["value", "most"] (defScope s_require_count_to) := ⟨rfl, rfl, rfl, by decide +kernel, rfl, by decide +kernel, by decide +kernel⟩
abbrev s_rounded_up : Stmt := top 17
theorem sc_rounded_up : FnScope ["units", "parts"] ["units", "parts"] (defScope s_rounded_up) := ⟨rfl, rfl, rfl, by decide +kernel, rfl, by decide +kernel, by decide +kernel⟩
abbrev s_value_at : Stmt := top 19
theorem sc_value_at : FnScope ["values", "period", "gain", "length", "rounds"] ["values", "period", "gain", "length"] (defScope s_value_at) := ⟨rfl, rfl, rfl, by decide +kernel, rfl, by decide +kernel, by decide +kernel⟩
abbrev s_least_form : Stmt := top 20
theorem sc_least_form : FnScope ["values", "period", "gain", "many", "row", "least", "step", "length"] ["values", "period", "gain"] (defScope s_least_form) := ⟨rfl, rfl, rfl, by decide +kernel, rfl, by decide +kernel, by decide +kernel⟩
abbrev s_least_period : Stmt := top 21
theorem sc_least_period : FnScope ["row", "many", "period", "least", "steps", "length"] ["row", "many", "period"] (defScope s_least_period) := ⟨rfl, rfl, rfl, by decide +kernel, rfl, by decide +kernel, by decide +kernel⟩
abbrev s_C_init : Stmt := inClass (top 26) 0
theorem sc_C_init : FnScope ["self", "values", "period", "gain", "wrong", "form", "least", "step"] ["self", "values", "period", "gain"] (defScope s_C_init) := ⟨rfl, rfl, rfl, by decide +kernel, rfl, by decide +kernel, by decide +kernel⟩
abbrev s_C_first_values : Stmt := inClass (top 26) 9
theorem sc_C_first_values : FnScope ["self"] ["self"] (defScope s_C_first_values) := ⟨rfl, rfl, rfl, by decide +kernel, rfl, by decide +kernel, by decide +kernel⟩
abbrev s_C_at : Stmt := inClass (top 26) 10
theorem sc_C_at : FnScope ["self", "length"] ["self", "length"] (defScope s_C_at) := ⟨rfl, rfl, rfl, by decide +kernel, rfl, by decide +kernel, by decide +kernel⟩
abbrev s_C_find_break : Stmt := inClass (top 26) 12
theorem sc_C_find_break : FnScope ["self"] ["self"] (defScope s_C_find_break) := ⟨rfl, rfl, rfl, by decide +kernel, rfl, by decide +kernel, by decide +kernel⟩
abbrev s_make_curve : Stmt := top 27
theorem sc_make_curve : FnScope ["values", "period", "gain", "made", "form", "least", "step"] ["values", "period", "gain"] (defScope s_make_curve) := ⟨rfl, rfl, rfl, by decide +kernel, rfl, by decide +kernel, by decide +kernel⟩
abbrev s_first_break : Stmt := top 28
theorem sc_first_break : FnScope ["curve", "many", "row", "total", "first", "length"] ["curve"] (defScope s_first_break) := ⟨rfl, rfl, rfl, by decide +kernel, rfl, by decide +kernel, by decide +kernel⟩
abbrev s_require_good : Stmt := top 29
theorem sc_require_good : FnScope ["curve", "found"] ["curve"] (defScope s_require_good) := ⟨rfl, rfl, rfl, by decide +kernel, rfl, by decide +kernel, by decide +kernel⟩
abbrev s_find_problem : Stmt := top 30
theorem sc_find_problem : FnScope ["values", "period", "gain", "before", "position", "value"] ["values", "period", "gain"] (defScope s_find_problem) := ⟨rfl, rfl, rfl, by decide +kernel, rfl, by decide +kernel, by decide +kernel⟩
abbrev s_most_in : Stmt := top 35
theorem sc_most_in : FnScope ["record", "length"] ["record", "length"] (defScope s_most_in) := ⟨rfl, rfl, rfl, by decide +kernel, rfl, by decide +kernel, by decide +kernel⟩
abbrev s_keeps : Stmt := top 36
theorem sc_keeps : FnScope ["record", "curve"] ["record", "curve"] (defScope s_keeps) := ⟨rfl, rfl, rfl, by decide +kernel, rfl, by decide +kernel, by decide +kernel⟩
abbrev s_breach : Stmt := top 37
theorem sc_breach : FnScope ["record", "curve", "sums", "length", "most", "start", "units"] ["record", "curve"] (defScope s_breach) := ⟨rfl, rfl, rfl, by decide +kernel, rfl, by decide +kernel, by decide +kernel⟩
abbrev s_tightest : Stmt := top 38
theorem sc_tightest : FnScope ["record", "sums", "values", "length"] ["record"] (defScope s_tightest) := ⟨rfl, rfl, rfl, by decide +kernel, rfl, by decide +kernel, by decide +kernel⟩
abbrev s_greedy : Stmt := top 39
theorem sc_greedy : FnScope ["curve", "ticks", "tick"] ["curve", "ticks"] (defScope s_greedy) := ⟨rfl, rfl, rfl, by decide +kernel, rfl, by decide +kernel, by decide +kernel⟩
abbrev s_shaped : Stmt := top 40
theorem sc_shaped : FnScope ["record", "curve", "limits", "entered", "waiting", "units", "entering", "length"] ["record", "curve"] (defScope s_shaped) := ⟨rfl, rfl, rfl, by decide +kernel, rfl, by decide +kernel, by decide +kernel⟩
abbrev s_require_record : Stmt := top 41
theorem sc_require_record : FnScope ["record", "position", "units"] ["record"] (defScope s_require_record) := ⟨rfl, rfl, rfl, by decide +kernel, rfl, by decide +kernel, by decide +kernel⟩
abbrev s_sums_before : Stmt := top 42
theorem sc_sums_before : FnScope ["record", "sums", "units"] ["record"] (defScope s_sums_before) := ⟨rfl, rfl, rfl, by decide +kernel, rfl, by decide +kernel, by decide +kernel⟩
abbrev s_window_sums : Stmt := top 43
theorem sc_window_sums : FnScope ["sums", "length", "start"] ["sums", "length"] (defScope s_window_sums) := ⟨rfl, rfl, rfl, by decide +kernel, rfl, by decide +kernel, by decide +kernel⟩
abbrev s_free_after : Stmt := top 44
theorem sc_free_after : FnScope ["record", "limits", "free", "units", "length", "entered"] ["record", "limits"] (defScope s_free_after) := ⟨rfl, rfl, rfl, by decide +kernel, rfl, by decide +kernel, by decide +kernel⟩
abbrev s_P_init : Stmt := inClass (top 46) 0
theorem sc_P_init : FnScope ["self", "curve", "queue"] ["self", "curve", "queue"] (defScope s_P_init) := ⟨rfl, rfl, rfl, by decide +kernel, rfl, by decide +kernel, by decide +kernel⟩
abbrev s_P_held : Stmt := inClass (top 46) 1
theorem sc_P_held : FnScope ["self"] ["self"] (defScope s_P_held) := ⟨rfl, rfl, rfl, by decide +kernel, rfl, by decide +kernel, by decide +kernel⟩
abbrev s_P_queue : Stmt := inClass (top 46) 2
theorem sc_P_queue : FnScope ["self"] ["self"] (defScope s_P_queue) := ⟨rfl, rfl, rfl, by decide +kernel, rfl, by decide +kernel, by decide +kernel⟩
abbrev s_P_returned : Stmt := inClass (top 46) 3
theorem sc_P_returned : FnScope ["self"] ["self"] (defScope s_P_returned) := ⟨rfl, rfl, rfl, by decide +kernel, rfl, by decide +kernel, by decide +kernel⟩
abbrev s_P_step : Stmt := inClass (top 46) 4
theorem sc_P_step : FnScope ["self", "units", "leak", "closed", "there", "entered", "allowed", "left", "returned"] ["self", "units", "leak", "closed"] (defScope s_P_step) := ⟨rfl, rfl, rfl, by decide +kernel, rfl, by decide +kernel, by decide +kernel⟩
abbrev s_P_record : Stmt := inClass (top 46) 5
theorem sc_P_record : FnScope ["self"] ["self"] (defScope s_P_record) := ⟨rfl, rfl, rfl, by decide +kernel, rfl, by decide +kernel, by decide +kernel⟩
abbrev s_P_binding : Stmt := inClass (top 46) 6
theorem sc_P_binding : FnScope ["self", "units", "length", "entered"] ["self"] (defScope s_P_binding) := ⟨rfl, rfl, rfl, by decide +kernel, rfl, by decide +kernel, by decide +kernel⟩
abbrev s_l_rng : Stmt := top 48
theorem sc_l_rng : FnScope ["_law_script", "_law_k", "_law_cell"] ["_law_script", "_law_k"] (defScope s_l_rng) := ⟨rfl, rfl, rfl, by decide +kernel, rfl, by decide +kernel, by decide +kernel⟩
abbrev s_l_draw : Stmt := top 49
theorem sc_l_draw : FnScope ["_law_rng_here", "_law_many", "_law_digit"] ["_law_rng_here", "_law_many"] (defScope s_l_draw) := ⟨rfl, rfl, rfl, by decide +kernel, rfl, by decide +kernel, by decide +kernel⟩
abbrev s_l_choice : Stmt := top 50
theorem sc_l_choice : FnScope ["_law_rng_here", "_law_some"] ["_law_rng_here", "_law_some"] (defScope s_l_choice) := ⟨rfl, rfl, rfl, by decide +kernel, rfl, by decide +kernel, by decide +kernel⟩
abbrev s_l_odd : Stmt := top 51
theorem sc_l_odd : FnScope ["_law_rng_here"] ["_law_rng_here"] (defScope s_l_odd) := ⟨rfl, rfl, rfl, by decide +kernel, rfl, by decide +kernel, by decide +kernel⟩
abbrev s_l_record : Stmt := top 52
theorem sc_l_record : FnScope ["_law_rng_here", "_law_found", "_law_way", "_law_at", "_law_k"] ["_law_rng_here"] (defScope s_l_record) := ⟨rfl, rfl, rfl, by decide +kernel, rfl, by decide +kernel, by decide +kernel⟩
abbrev s_l_curve : Stmt := top 53
theorem sc_l_curve : FnScope ["_law_rng_here", "_law_more"] ["_law_rng_here"] (defScope s_l_curve) := ⟨rfl, rfl, rfl, by decide +kernel, rfl, by decide +kernel, by decide +kernel⟩
abbrev s_l_count : Stmt := top 54
theorem sc_l_count : FnScope ["_law_rng_here", "_law_most", "_law_way"] ["_law_rng_here", "_law_most"] (defScope s_l_count) := ⟨rfl, rfl, rfl, by decide +kernel, rfl, by decide +kernel, by decide +kernel⟩
abbrev s_l_called : Stmt := top 55
theorem sc_l_called : FnScope ["_law_word", "_law_some"] ["_law_word", "_law_some"] (defScope s_l_called) := ⟨rfl, rfl, rfl, by decide +kernel, rfl, by decide +kernel, by decide +kernel⟩
abbrev s_l_fault : Stmt := top 56
theorem sc_l_fault : FnScope ["_law_word", "_law_some", "_law_told", "e", "_law_others"] ["_law_word", "_law_some"] (defScope s_l_fault) := ⟨rfl, rfl, rfl, by decide +kernel, rfl, by decide +kernel, by decide +kernel⟩
abbrev s_l_due : Stmt := top 57
theorem sc_l_due : FnScope ["_law_record_at", "_law_pair", "_law_count_here", "_law_word"] ["_law_record_at", "_law_pair", "_law_count_here", "_law_word"] (defScope s_l_due) := ⟨rfl, rfl, rfl, by decide +kernel, rfl, by decide +kernel, by decide +kernel⟩
abbrev s_l_calls_right : Stmt := top 58
theorem sc_l_calls_right : FnScope ["_law_rng_here", "_law_record_here", "_law_at", "_law_curve_here", "_law_pair", "_law_span", "_law_ticks", "_law_seats", "_law_shown_here", "_law_rows", "_law_word", "_law_some", "_law_due_here"] ["_law_rng_here"] (defScope s_l_calls_right) := ⟨rfl, rfl, rfl, by decide +kernel, rfl, by decide +kernel, by decide +kernel⟩
abbrev s_l_shown : Stmt := top 59
theorem sc_l_shown : FnScope ["_law_police"] ["_law_police"] (defScope s_l_shown) := ⟨rfl, rfl, rfl, by decide +kernel, rfl, by decide +kernel, by decide +kernel⟩
abbrev s_l_steps_right : Stmt := top 60
theorem sc_l_steps_right : FnScope ["_law_rng_here", "_law_curve_here", "_law_police", "_law_silent", "_law_turn", "_law_many", "_law_units", "_law_leaks", "_law_due_here"] ["_law_rng_here"] (defScope s_l_steps_right) := ⟨rfl, rfl, rfl, by decide +kernel, rfl, by decide +kernel, by decide +kernel⟩
abbrev s_law : Stmt := top 61
theorem sc_law : FnScope ["_law_script", "_law_k", "_law_rng_here", "_law_turn"] ["_law_script"] (defScope s_law) := ⟨rfl, rfl, rfl, by decide +kernel, rfl, by decide +kernel, by decide +kernel⟩
structure Ad where
  InvalidRecord : Addr
  InvalidLength : Addr
  InvalidCount : Addr
  NotGood : Addr
  DueError : Addr
  InvalidCurve : Addr
  InvalidTick : Addr
  TooSlow : Addr
  f_InvalidLength_init : Addr
  d_InvalidLength_init : FuncData
  f_InvalidCount_init : Addr
  d_InvalidCount_init : FuncData
  f_InvalidRecord_init : Addr
  d_InvalidRecord_init : FuncData
  f_NotGood_init : Addr
  d_NotGood_init : FuncData
  f_is_integer : Addr
  d_is_integer : FuncData
  f_is_count : Addr
  d_is_count : FuncData
  f_is_count_to : Addr
  d_is_count_to : FuncData
  f_require_count : Addr
  d_require_count : FuncData
  f_require_count_to : Addr
  d_require_count_to : FuncData
  f_rounded_up : Addr
  d_rounded_up : FuncData
  f_value_at : Addr
  d_value_at : FuncData
  f_least_form : Addr
  d_least_form : FuncData
  f_least_period : Addr
  d_least_period : FuncData
  f_C_init : Addr
  d_C_init : FuncData
  f_C_first_values : Addr
  d_C_first_values : FuncData
  f_C_at : Addr
  d_C_at : FuncData
  f_C_find_break : Addr
  d_C_find_break : FuncData
  f_make_curve : Addr
  d_make_curve : FuncData
  f_first_break : Addr
  d_first_break : FuncData
  f_require_good : Addr
  d_require_good : FuncData
  f_find_problem : Addr
  d_find_problem : FuncData
  f_most_in : Addr
  d_most_in : FuncData
  f_keeps : Addr
  d_keeps : FuncData
  f_breach : Addr
  d_breach : FuncData
  f_tightest : Addr
  d_tightest : FuncData
  f_greedy : Addr
  d_greedy : FuncData
  f_shaped : Addr
  d_shaped : FuncData
  f_require_record : Addr
  d_require_record : FuncData
  f_sums_before : Addr
  d_sums_before : FuncData
  f_window_sums : Addr
  d_window_sums : FuncData
  f_free_after : Addr
  d_free_after : FuncData
  f_P_init : Addr
  d_P_init : FuncData
  f_P_held : Addr
  d_P_held : FuncData
  p_P_held : Addr
  f_P_queue : Addr
  d_P_queue : FuncData
  p_P_queue : Addr
  f_P_returned : Addr
  d_P_returned : FuncData
  p_P_returned : Addr
  f_P_step : Addr
  d_P_step : FuncData
  f_P_record : Addr
  d_P_record : FuncData
  f_P_binding : Addr
  d_P_binding : FuncData
  f_l_rng : Addr
  d_l_rng : FuncData
  f_l_draw : Addr
  d_l_draw : FuncData
  f_l_choice : Addr
  d_l_choice : FuncData
  f_l_odd : Addr
  d_l_odd : FuncData
  f_l_record : Addr
  d_l_record : FuncData
  f_l_curve : Addr
  d_l_curve : FuncData
  f_l_count : Addr
  d_l_count : FuncData
  f_l_called : Addr
  d_l_called : FuncData
  f_l_fault : Addr
  d_l_fault : FuncData
  f_l_due : Addr
  d_l_due : FuncData
  f_l_calls_right : Addr
  d_l_calls_right : FuncData
  f_l_shown : Addr
  d_l_shown : FuncData
  f_l_steps_right : Addr
  d_l_steps_right : FuncData
  f_law : Addr
  d_law : FuncData
  Curve : Addr
  Police : Addr
  t_MAX_VALUES : Tok
  t_MAX_VALUE : Tok
  t_MAX_TICKS : Tok
  a_PERIODS : Addr
structure Txt (K : PySem.W.Frag) (mg : Str → Option Value) (A : Ad) : Prop where
  m_DueError : mg "DueError" = some (.ref A.DueError)
  m_InvalidCurve : mg "InvalidCurve" = some (.ref A.InvalidCurve)
  m_InvalidTick : mg "InvalidTick" = some (.ref A.InvalidTick)
  m_TooSlow : mg "TooSlow" = some (.ref A.TooSlow)
  m_InvalidRecord : mg "InvalidRecord" = some (.ref A.InvalidRecord)
  O_InvalidRecord : VX.Own K A.InvalidRecord
  xf_InvalidRecord : XfC K A.InvalidRecord
  as_InvalidRecord : VX.Asked K A.InvalidRecord
  ex_InvalidRecord : PySem.W.exmOne K (.ref A.InvalidRecord) (.ref A.InvalidRecord) = some true
  iC_InvalidRecord : PySem.W.findIn K (.ref A.InvalidRecord) "__init__" = some (some (.ref A.f_InvalidRecord_init))
  tI_InvalidRecord : PySem.W.typeIn K (.ref A.f_InvalidRecord_init) = some (.type "function")
  n_InvalidRecord_position : PySem.W.findIn K (.ref A.InvalidRecord) "position" = some none
  m_InvalidLength : mg "InvalidLength" = some (.ref A.InvalidLength)
  O_InvalidLength : VX.Own K A.InvalidLength
  xf_InvalidLength : XfC K A.InvalidLength
  as_InvalidLength : VX.Asked K A.InvalidLength
  ex_InvalidLength : PySem.W.exmOne K (.ref A.InvalidLength) (.ref A.InvalidLength) = some true
  iC_InvalidLength : PySem.W.findIn K (.ref A.InvalidLength) "__init__" = some (some (.ref A.f_InvalidLength_init))
  tI_InvalidLength : PySem.W.typeIn K (.ref A.f_InvalidLength_init) = some (.type "function")
  n_InvalidLength_value : PySem.W.findIn K (.ref A.InvalidLength) "value" = some none
  m_InvalidCount : mg "InvalidCount" = some (.ref A.InvalidCount)
  O_InvalidCount : VX.Own K A.InvalidCount
  xf_InvalidCount : XfC K A.InvalidCount
  as_InvalidCount : VX.Asked K A.InvalidCount
  ex_InvalidCount : PySem.W.exmOne K (.ref A.InvalidCount) (.ref A.InvalidCount) = some true
  iC_InvalidCount : PySem.W.findIn K (.ref A.InvalidCount) "__init__" = some (some (.ref A.f_InvalidCount_init))
  tI_InvalidCount : PySem.W.typeIn K (.ref A.f_InvalidCount_init) = some (.type "function")
  n_InvalidCount_value : PySem.W.findIn K (.ref A.InvalidCount) "value" = some none
  m_NotGood : mg "NotGood" = some (.ref A.NotGood)
  O_NotGood : VX.Own K A.NotGood
  xf_NotGood : XfC K A.NotGood
  as_NotGood : VX.Asked K A.NotGood
  ex_NotGood : PySem.W.exmOne K (.ref A.NotGood) (.ref A.NotGood) = some true
  iC_NotGood : PySem.W.findIn K (.ref A.NotGood) "__init__" = some (some (.ref A.f_NotGood_init))
  tI_NotGood : PySem.W.typeIn K (.ref A.f_NotGood_init) = some (.type "function")
  n_NotGood_first : PySem.W.findIn K (.ref A.NotGood) "first" = some none
  n_NotGood_second : PySem.W.findIn K (.ref A.NotGood) "second" = some none
  ex_InvalidRecord_DueError : PySem.W.exmOne K (.ref A.InvalidRecord) (.ref A.DueError) = some true
  ex_InvalidLength_DueError : PySem.W.exmOne K (.ref A.InvalidLength) (.ref A.DueError) = some true
  ex_InvalidCount_DueError : PySem.W.exmOne K (.ref A.InvalidCount) (.ref A.DueError) = some true
  ex_NotGood_DueError : PySem.W.exmOne K (.ref A.NotGood) (.ref A.DueError) = some false
  kt_InvalidRecord_InvalidCurve_InvalidTick : PySem.W.kitAny K (.ref A.InvalidRecord) [.ref A.InvalidCurve, .ref A.InvalidTick] = some false
  kt_InvalidLength_InvalidCurve_InvalidTick : PySem.W.kitAny K (.ref A.InvalidLength) [.ref A.InvalidCurve, .ref A.InvalidTick] = some false
  kt_InvalidCount_InvalidCurve_InvalidTick : PySem.W.kitAny K (.ref A.InvalidCount) [.ref A.InvalidCurve, .ref A.InvalidTick] = some false
  kt_InvalidRecord_ValueError : PySem.W.kitOne K (.ref A.InvalidRecord) (.type "ValueError") = some true
  kt_InvalidLength_ValueError : PySem.W.kitOne K (.ref A.InvalidLength) (.type "ValueError") = some true
  kt_InvalidCount_ValueError : PySem.W.kitOne K (.ref A.InvalidCount) (.type "ValueError") = some true
  kt_InvalidRecord_InvalidRecord : PySem.W.kitOne K (.ref A.InvalidRecord) (.ref A.InvalidRecord) = some true
  kt_InvalidLength_InvalidRecord : PySem.W.kitOne K (.ref A.InvalidLength) (.ref A.InvalidRecord) = some false
  kt_InvalidCount_InvalidRecord : PySem.W.kitOne K (.ref A.InvalidCount) (.ref A.InvalidRecord) = some false
  kt_InvalidLength_InvalidLength : PySem.W.kitOne K (.ref A.InvalidLength) (.ref A.InvalidLength) = some true
  kt_InvalidCount_InvalidLength : PySem.W.kitOne K (.ref A.InvalidCount) (.ref A.InvalidLength) = some false
  kt_InvalidCount_InvalidCount : PySem.W.kitOne K (.ref A.InvalidCount) (.ref A.InvalidCount) = some true
  kt_NotGood_TooSlow : PySem.W.kitOne K (.ref A.NotGood) (.ref A.TooSlow) = some false
  kt_NotGood_RuntimeError : PySem.W.kitOne K (.ref A.NotGood) (.type "RuntimeError") = some true
  F_InvalidLength_init : Fun K "__init__" "InvalidLength.__init__" s_InvalidLength_init A.f_InvalidLength_init A.d_InvalidLength_init
  b_InvalidLength_init : Binds K A.d_InvalidLength_init ["self", "value"] []
  F_InvalidCount_init : Fun K "__init__" "InvalidCount.__init__" s_InvalidCount_init A.f_InvalidCount_init A.d_InvalidCount_init
  b_InvalidCount_init : Binds K A.d_InvalidCount_init ["self", "value"] []
  F_InvalidRecord_init : Fun K "__init__" "InvalidRecord.__init__" s_InvalidRecord_init A.f_InvalidRecord_init A.d_InvalidRecord_init
  b_InvalidRecord_init : Binds K A.d_InvalidRecord_init ["self", "position"] []
  F_NotGood_init : Fun K "__init__" "NotGood.__init__" s_NotGood_init A.f_NotGood_init A.d_NotGood_init
  b_NotGood_init : Binds K A.d_NotGood_init ["self", "first", "second"] []
  F_is_integer : Fun K "is_integer" "is_integer" s_is_integer A.f_is_integer A.d_is_integer
  m_is_integer : mg "is_integer" = some (.ref A.f_is_integer)
  k_is_integer : PySem.W.keepIn K (.ref A.f_is_integer) = true
  b_is_integer : Binds K A.d_is_integer ["value"] []
  F_is_count : Fun K "is_count" "is_count" s_is_count A.f_is_count A.d_is_count
  m_is_count : mg "is_count" = some (.ref A.f_is_count)
  k_is_count : PySem.W.keepIn K (.ref A.f_is_count) = true
  b_is_count : Binds K A.d_is_count ["value"] []
  F_is_count_to : Fun K "is_count_to" "is_count_to" s_is_count_to A.f_is_count_to A.d_is_count_to
  m_is_count_to : mg "is_count_to" = some (.ref A.f_is_count_to)
  k_is_count_to : PySem.W.keepIn K (.ref A.f_is_count_to) = true
  b_is_count_to : Binds K A.d_is_count_to ["value", "most"] []
  F_require_count : Fun K "require_count" "require_count" s_require_count A.f_require_count A.d_require_count
  m_require_count : mg "require_count" = some (.ref A.f_require_count)
  k_require_count : PySem.W.keepIn K (.ref A.f_require_count) = true
  b_require_count : Binds K A.d_require_count ["value"] []
  F_require_count_to : Fun K "require_count_to" "require_count_to" s_require_count_to A.f_require_count_to A.d_require_count_to
  m_require_count_to : mg "require_count_to" = some (.ref A.f_require_count_to)
  k_require_count_to : PySem.W.keepIn K (.ref A.f_require_count_to) = true
  b_require_count_to : Binds K A.d_require_count_to ["value", "most"] []
  F_rounded_up : Fun K "rounded_up" "rounded_up" s_rounded_up A.f_rounded_up A.d_rounded_up
  m_rounded_up : mg "rounded_up" = some (.ref A.f_rounded_up)
  k_rounded_up : PySem.W.keepIn K (.ref A.f_rounded_up) = true
  b_rounded_up : Binds K A.d_rounded_up ["units", "parts"] []
  F_value_at : Fun K "value_at" "value_at" s_value_at A.f_value_at A.d_value_at
  m_value_at : mg "value_at" = some (.ref A.f_value_at)
  k_value_at : PySem.W.keepIn K (.ref A.f_value_at) = true
  b_value_at : Binds K A.d_value_at ["values", "period", "gain", "length"] []
  F_least_form : Fun K "least_form" "least_form" s_least_form A.f_least_form A.d_least_form
  m_least_form : mg "least_form" = some (.ref A.f_least_form)
  k_least_form : PySem.W.keepIn K (.ref A.f_least_form) = true
  b_least_form : Binds K A.d_least_form ["values", "period", "gain"] []
  F_least_period : Fun K "least_period" "least_period" s_least_period A.f_least_period A.d_least_period
  m_least_period : mg "least_period" = some (.ref A.f_least_period)
  k_least_period : PySem.W.keepIn K (.ref A.f_least_period) = true
  b_least_period : Binds K A.d_least_period ["row", "many", "period"] []
  F_C_first_values : Fun K "first_values" "Curve.first_values" s_C_first_values A.f_C_first_values A.d_C_first_values
  b_C_first_values : Binds K A.d_C_first_values ["self"] []
  me_first_values : Meth K A.Curve "first_values" A.f_C_first_values
  F_C_at : Fun K "at" "Curve.at" s_C_at A.f_C_at A.d_C_at
  b_C_at : Binds K A.d_C_at ["self", "length"] []
  me_at : Meth K A.Curve "at" A.f_C_at
  F_C_find_break : Fun K "find_break" "Curve.find_break" s_C_find_break A.f_C_find_break A.d_C_find_break
  b_C_find_break : Binds K A.d_C_find_break ["self"] []
  me_find_break : Meth K A.Curve "find_break" A.f_C_find_break
  F_make_curve : Fun K "make_curve" "make_curve" s_make_curve A.f_make_curve A.d_make_curve
  m_make_curve : mg "make_curve" = some (.ref A.f_make_curve)
  k_make_curve : PySem.W.keepIn K (.ref A.f_make_curve) = true
  b_make_curve : Binds K A.d_make_curve ["values", "period", "gain"] []
  F_first_break : Fun K "first_break" "first_break" s_first_break A.f_first_break A.d_first_break
  m_first_break : mg "first_break" = some (.ref A.f_first_break)
  k_first_break : PySem.W.keepIn K (.ref A.f_first_break) = true
  b_first_break : Binds K A.d_first_break ["curve"] []
  F_require_good : Fun K "require_good" "require_good" s_require_good A.f_require_good A.d_require_good
  m_require_good : mg "require_good" = some (.ref A.f_require_good)
  k_require_good : PySem.W.keepIn K (.ref A.f_require_good) = true
  b_require_good : Binds K A.d_require_good ["curve"] []
  F_find_problem : Fun K "find_problem" "find_problem" s_find_problem A.f_find_problem A.d_find_problem
  m_find_problem : mg "find_problem" = some (.ref A.f_find_problem)
  k_find_problem : PySem.W.keepIn K (.ref A.f_find_problem) = true
  b_find_problem : Binds K A.d_find_problem ["values", "period", "gain"] []
  F_most_in : Fun K "most_in" "most_in" s_most_in A.f_most_in A.d_most_in
  m_most_in : mg "most_in" = some (.ref A.f_most_in)
  k_most_in : PySem.W.keepIn K (.ref A.f_most_in) = true
  b_most_in : Binds K A.d_most_in ["record", "length"] []
  F_keeps : Fun K "keeps" "keeps" s_keeps A.f_keeps A.d_keeps
  m_keeps : mg "keeps" = some (.ref A.f_keeps)
  k_keeps : PySem.W.keepIn K (.ref A.f_keeps) = true
  b_keeps : Binds K A.d_keeps ["record", "curve"] []
  F_breach : Fun K "breach" "breach" s_breach A.f_breach A.d_breach
  m_breach : mg "breach" = some (.ref A.f_breach)
  k_breach : PySem.W.keepIn K (.ref A.f_breach) = true
  b_breach : Binds K A.d_breach ["record", "curve"] []
  F_tightest : Fun K "tightest" "tightest" s_tightest A.f_tightest A.d_tightest
  m_tightest : mg "tightest" = some (.ref A.f_tightest)
  k_tightest : PySem.W.keepIn K (.ref A.f_tightest) = true
  b_tightest : Binds K A.d_tightest ["record"] []
  F_greedy : Fun K "greedy" "greedy" s_greedy A.f_greedy A.d_greedy
  m_greedy : mg "greedy" = some (.ref A.f_greedy)
  k_greedy : PySem.W.keepIn K (.ref A.f_greedy) = true
  b_greedy : Binds K A.d_greedy ["curve", "ticks"] []
  F_shaped : Fun K "shaped" "shaped" s_shaped A.f_shaped A.d_shaped
  m_shaped : mg "shaped" = some (.ref A.f_shaped)
  k_shaped : PySem.W.keepIn K (.ref A.f_shaped) = true
  b_shaped : Binds K A.d_shaped ["record", "curve"] []
  F_require_record : Fun K "require_record" "require_record" s_require_record A.f_require_record A.d_require_record
  m_require_record : mg "require_record" = some (.ref A.f_require_record)
  k_require_record : PySem.W.keepIn K (.ref A.f_require_record) = true
  b_require_record : Binds K A.d_require_record ["record"] []
  F_sums_before : Fun K "sums_before" "sums_before" s_sums_before A.f_sums_before A.d_sums_before
  m_sums_before : mg "sums_before" = some (.ref A.f_sums_before)
  k_sums_before : PySem.W.keepIn K (.ref A.f_sums_before) = true
  b_sums_before : Binds K A.d_sums_before ["record"] []
  F_window_sums : Fun K "window_sums" "window_sums" s_window_sums A.f_window_sums A.d_window_sums
  m_window_sums : mg "window_sums" = some (.ref A.f_window_sums)
  k_window_sums : PySem.W.keepIn K (.ref A.f_window_sums) = true
  b_window_sums : Binds K A.d_window_sums ["sums", "length"] []
  F_free_after : Fun K "free_after" "free_after" s_free_after A.f_free_after A.d_free_after
  m_free_after : mg "free_after" = some (.ref A.f_free_after)
  k_free_after : PySem.W.keepIn K (.ref A.f_free_after) = true
  b_free_after : Binds K A.d_free_after ["record", "limits"] []
  F_P_held : Fun K "held" "Police.held" s_P_held A.f_P_held A.d_P_held
  b_P_held : Binds K A.d_P_held ["self"] []
  pr_P_held : PropOf K A.Police "held" A.p_P_held A.f_P_held
  F_P_queue : Fun K "queue" "Police.queue" s_P_queue A.f_P_queue A.d_P_queue
  b_P_queue : Binds K A.d_P_queue ["self"] []
  pr_P_queue : PropOf K A.Police "queue" A.p_P_queue A.f_P_queue
  F_P_returned : Fun K "returned" "Police.returned" s_P_returned A.f_P_returned A.d_P_returned
  b_P_returned : Binds K A.d_P_returned ["self"] []
  pr_P_returned : PropOf K A.Police "returned" A.p_P_returned A.f_P_returned
  F_P_record : Fun K "record" "Police.record" s_P_record A.f_P_record A.d_P_record
  b_P_record : Binds K A.d_P_record ["self"] []
  me_record : Meth K A.Police "record" A.f_P_record
  F_P_binding : Fun K "binding" "Police.binding" s_P_binding A.f_P_binding A.d_P_binding
  b_P_binding : Binds K A.d_P_binding ["self"] []
  me_binding : Meth K A.Police "binding" A.f_P_binding
  F_l_rng : Fun K "_law_rng" "_law_rng" s_l_rng A.f_l_rng A.d_l_rng
  m_l_rng : mg "_law_rng" = some (.ref A.f_l_rng)
  k_l_rng : PySem.W.keepIn K (.ref A.f_l_rng) = true
  b_l_rng : Binds K A.d_l_rng ["_law_script", "_law_k"] []
  F_l_draw : Fun K "_law_draw" "_law_draw" s_l_draw A.f_l_draw A.d_l_draw
  m_l_draw : mg "_law_draw" = some (.ref A.f_l_draw)
  k_l_draw : PySem.W.keepIn K (.ref A.f_l_draw) = true
  b_l_draw : Binds K A.d_l_draw ["_law_rng_here", "_law_many"] []
  F_l_choice : Fun K "_law_choice" "_law_choice" s_l_choice A.f_l_choice A.d_l_choice
  m_l_choice : mg "_law_choice" = some (.ref A.f_l_choice)
  k_l_choice : PySem.W.keepIn K (.ref A.f_l_choice) = true
  b_l_choice : Binds K A.d_l_choice ["_law_rng_here", "_law_some"] []
  F_l_odd : Fun K "_law_odd" "_law_odd" s_l_odd A.f_l_odd A.d_l_odd
  m_l_odd : mg "_law_odd" = some (.ref A.f_l_odd)
  k_l_odd : PySem.W.keepIn K (.ref A.f_l_odd) = true
  b_l_odd : Binds K A.d_l_odd ["_law_rng_here"] []
  F_l_record : Fun K "_law_record" "_law_record" s_l_record A.f_l_record A.d_l_record
  m_l_record : mg "_law_record" = some (.ref A.f_l_record)
  k_l_record : PySem.W.keepIn K (.ref A.f_l_record) = true
  b_l_record : Binds K A.d_l_record ["_law_rng_here"] []
  F_l_curve : Fun K "_law_curve" "_law_curve" s_l_curve A.f_l_curve A.d_l_curve
  m_l_curve : mg "_law_curve" = some (.ref A.f_l_curve)
  k_l_curve : PySem.W.keepIn K (.ref A.f_l_curve) = true
  b_l_curve : Binds K A.d_l_curve ["_law_rng_here"] []
  F_l_count : Fun K "_law_count" "_law_count" s_l_count A.f_l_count A.d_l_count
  m_l_count : mg "_law_count" = some (.ref A.f_l_count)
  k_l_count : PySem.W.keepIn K (.ref A.f_l_count) = true
  b_l_count : Binds K A.d_l_count ["_law_rng_here", "_law_most"] []
  F_l_called : Fun K "_law_called" "_law_called" s_l_called A.f_l_called A.d_l_called
  m_l_called : mg "_law_called" = some (.ref A.f_l_called)
  k_l_called : PySem.W.keepIn K (.ref A.f_l_called) = true
  b_l_called : Binds K A.d_l_called ["_law_word", "_law_some"] []
  F_l_fault : Fun K "_law_fault" "_law_fault" s_l_fault A.f_l_fault A.d_l_fault
  m_l_fault : mg "_law_fault" = some (.ref A.f_l_fault)
  k_l_fault : PySem.W.keepIn K (.ref A.f_l_fault) = true
  b_l_fault : Binds K A.d_l_fault ["_law_word", "_law_some"] []
  F_l_due : Fun K "_law_due" "_law_due" s_l_due A.f_l_due A.d_l_due
  m_l_due : mg "_law_due" = some (.ref A.f_l_due)
  k_l_due : PySem.W.keepIn K (.ref A.f_l_due) = true
  b_l_due : Binds K A.d_l_due ["_law_record_at", "_law_pair", "_law_count_here", "_law_word"] []
  F_l_calls_right : Fun K "_law_calls_right" "_law_calls_right" s_l_calls_right A.f_l_calls_right A.d_l_calls_right
  m_l_calls_right : mg "_law_calls_right" = some (.ref A.f_l_calls_right)
  k_l_calls_right : PySem.W.keepIn K (.ref A.f_l_calls_right) = true
  b_l_calls_right : Binds K A.d_l_calls_right ["_law_rng_here"] []
  F_l_shown : Fun K "_law_shown" "_law_shown" s_l_shown A.f_l_shown A.d_l_shown
  m_l_shown : mg "_law_shown" = some (.ref A.f_l_shown)
  k_l_shown : PySem.W.keepIn K (.ref A.f_l_shown) = true
  b_l_shown : Binds K A.d_l_shown ["_law_police"] []
  F_l_steps_right : Fun K "_law_steps_right" "_law_steps_right" s_l_steps_right A.f_l_steps_right A.d_l_steps_right
  m_l_steps_right : mg "_law_steps_right" = some (.ref A.f_l_steps_right)
  k_l_steps_right : PySem.W.keepIn K (.ref A.f_l_steps_right) = true
  b_l_steps_right : Binds K A.d_l_steps_right ["_law_rng_here"] []
  F_law : Fun K "law" "law" s_law A.f_law A.d_law
  m_law : mg "law" = some (.ref A.f_law)
  k_law : PySem.W.keepIn K (.ref A.f_law) = true
  b_law : Binds K A.d_law ["_law_script"] []
  RuntimeError : mg "RuntimeError" = none
  ValueError : mg "ValueError" = none
  abs : mg "abs" = none
  bool : mg "bool" = none
  divmod : mg "divmod" = none
  enumerate : mg "enumerate" = none
  int : mg "int" = none
  isinstance : mg "isinstance" = none
  len : mg "len" = none
  list : mg "list" = none
  max : mg "max" = none
  min : mg "min" = none
  range : mg "range" = none
  repr : mg "repr" = none
  reversed : mg "reversed" = none
  tuple : mg "tuple" = none
  v_MAX_VALUES : mg "MAX_VALUES" = some (.int 24 A.t_MAX_VALUES)
  v_MAX_VALUE : mg "MAX_VALUE" = some (.int 2000 A.t_MAX_VALUE)
  v_MAX_TICKS : mg "MAX_TICKS" = some (.int 400 A.t_MAX_TICKS)
  v_PERIODS : mg "PERIODS" = some (.ref A.a_PERIODS)
  periods : ∀ H, SqT K H A.a_PERIODS [.int 1, .int 2, .int 3, .int 4, .int 6, .int 12]
  m_Curve : mg "Curve" = some (.ref A.Curve)
  cl : Cls K A.Curve
  n_values : NoAttr K A.Curve "_values"
  n_period : NoAttr K A.Curve "_period"
  n_gain : NoAttr K A.Curve "_gain"
  n_was_searched : NoAttr K A.Curve "_was_searched"
  n_break : NoAttr K A.Curve "_break"
  F_C_init : FunD K "__init__" "Curve.__init__" (defArgs s_C_init) (defBody s_C_init) (defScope s_C_init) [] [("period", .int 1), ("gain", .int 0)] A.f_C_init A.d_C_init
  M_Curve : Mk K A.Curve A.f_C_init
  m_Police : mg "Police" = some (.ref A.Police)
  clPolice : Cls K A.Police
  n_curve : NoAttr K A.Police "_curve"
  n_queue : NoAttr K A.Police "_queue"
  n_held : NoAttr K A.Police "_held"
  n_returned : NoAttr K A.Police "_returned"
  n_entered : NoAttr K A.Police "_entered"
  n_was_closed : NoAttr K A.Police "_was_closed"
  n_limits : NoAttr K A.Police "_limits"
  F_P_init : FunD K "__init__" "Police.__init__" (defArgs s_P_init) (defBody s_P_init) (defScope s_P_init) [] [("queue", .int 60)] A.f_P_init A.d_P_init
  M_Police : Mk K A.Police A.f_P_init
  F_P_step : FunD K "step" "Police.step" (defArgs s_P_step) (defBody s_P_step) (defScope s_P_step) [] [("leak", .int 0), ("closed", .bl false)] A.f_P_step A.d_P_step
  me_step : Meth K A.Police "step" A.f_P_step
/-! ### counts -/
/-- the built-in classes of the values that occur -/
def kinds : List String := ["NoneType", "bool", "int", "str", "list", "tuple", "dict"]
def Kd (K : PySem.W.Frag) (H : Hp) (v : V) (n : String) : Prop := TyX K H v (.type n) ∧ n ∈ kinds
theorem Kd.int {K : PySem.W.Frag} {H : Hp} (i : Int) : Kd K H (.int i) "int" := ⟨.base (.int i), by decide⟩
theorem Kd.is_int {K : PySem.W.Frag} {H : Hp} {v : V} (h : Kd K H v "int") : ∃ i, v = .int i := by
  obtain ⟨h, _⟩ := h
  generalize e : Value.type "int" = t at h
  cases h with
  | base b => cases b <;> first | exact ⟨_, rfl⟩ | (injection e with e; exact absurd e (by decide)) | cases e
  | _ => first | (injection e with e; exact absurd e (by decide)) | cases e
/-- a count -/
def cnt : V → Bool
  | .int i => decide (0 ≤ i)
  | _ => false
def cntTo (m : Int) : V → Bool
  | .int i => decide (0 ≤ i ∧ i ≤ m)
  | _ => false
def sp_is_integer (K : PySem.W.Frag) (_ : Ad) : Sp := fun vs H Q _ => ∃ v n, vs = [v] ∧ Kd K H v n ∧ Q (.bl (n == "int")) H
def sp_is_count (K : PySem.W.Frag) (_ : Ad) : Sp := fun vs H Q _ => ∃ v n, vs = [v] ∧ Kd K H v n ∧ Q (.bl (cnt v)) H
def sp_is_count_to (K : PySem.W.Frag) (_ : Ad) : Sp := fun vs H Q _ => ∃ v n m, vs = [v, .int m] ∧ Kd K H v n ∧ Q (.bl (cntTo m v)) H
def sp_rounded_up (_ : PySem.W.Frag) (_ : Ad) : Sp := fun vs H Q _ => ∃ (u p : Int), vs = [.int u, .int p] ∧ 0 < p ∧ p < 1073741824 ∧ Q (.int ((u + p - 1) / p)) H
section
variable {P : Program} {w : World} {K : PySem.W.Frag} {mg : Str → Option Value} {base : Heap} {A : Ad}
theorem kitI {n : String} (h : n ∈ kinds) : PySem.W.kitOne K (.type n) (.type "int") = some (n == "int" || n == "bool") := by
  simp only [kinds, List.mem_cons, List.not_mem_nil, or_false] at h
  rcases h with rfl | rfl | rfl | rfl | rfl | rfl | rfl <;> exact kit_ty (by decide +kernel)
theorem kitB' {n : String} (h : n ∈ kinds) : PySem.W.kitOne K (.type n) (.type "bool") = some (n == "bool") := by
  simp only [kinds, List.mem_cons, List.not_mem_nil, or_false] at h
  rcases h with rfl | rfl | rfl | rfl | rfl | rfl | rfl <;> exact kit_ty (by decide +kernel)
theorem ok_is_integer (T : Txt K mg A) : FnOk P w K mg base CX0 1 A.f_is_integer A.d_is_integer ["value"] (sp_is_integer K A) := by
  refine T.F_is_integer.ok sc_is_integer (fun vs H Q E h => ?_) (fun cdv A0 outer s H vs Q E hr h => ?_)
  · obtain ⟨v, n, rfl, hk, q⟩ := h
    rfl
  · obtain ⟨v, n, rfl, hk, q⟩ := h
    refine ⟨_, (pss_one (ps_ret (pe_and (pe_callB (r := rIsi K) call_isi (by rfl) T.isinstance (by decide +kernel) (pa_cons (pv 0) (pa_cons (pe_bltn (v := .ty "int") (u := .type "int") (by rfl) T.int (by decide +kernel) (by exact rfl)) pa_nil))) (pe_one (pe_not (pe_callB (r := rIsi K) call_isi (by rfl) T.isinstance (by decide +kernel) (pa_cons (pv 0) (pa_cons (pe_bltn (v := .ty "bool") (u := .type "bool") (by rfl) T.bool (by decide +kernel) (by exact rfl)) pa_nil)))))))), ?_⟩
    refine ⟨_, rfl, v, .ty "int", _, _, _, rfl, .ty _, hk.1, kitI hk.2, _, rfl, ?_⟩
    refine ite2 (fun c => ?_) (fun c => ?_)
    · refine ⟨_, rfl, v, .ty "bool", _, _, _, rfl, .ty _, hk.1, kitB' hk.2, _, rfl, ?_⟩
      by_cases e : n = "bool"
      · subst e; exact q
      · have e1 : (n == "bool") = false := by simpa using e
        rw [e1] at c ⊢
        simp at c
        subst c
        exact q
    · simp at c
      have e1 : (n == "int") = false := by simpa using c.1
      rw [e1] at q
      exact q
theorem ok_is_count (T : Txt K mg A) : FnOk P w K mg base CX0 2 A.f_is_count A.d_is_count ["value"] (sp_is_count K A) := by
  have G_is_integer := ok_is_integer (P := P) (w := w) (base := base) T
  refine T.F_is_count.ok sc_is_count (fun vs H Q E h => ?_) (fun cdv A0 outer s H vs Q E hr h => ?_)
  · obtain ⟨v, n, rfl, hk, q⟩ := h
    rfl
  · obtain ⟨v, n, rfl, hk, q⟩ := h
    refine ⟨_, (pss_one (ps_ret (pe_and (pe_call G_is_integer (hr.mono (by decide)) rfl T.m_is_integer T.k_is_integer T.b_is_integer .nil pass0 (pa_cons (pv 0) pa_nil)) (pe_one (pe_cmpR op_ge (pv 0) pe_int (nomark _)))))), ?_⟩
    refine ⟨_, rfl, v, n, rfl, hk, _, rfl, ?_⟩
    refine ite2 (fun c => ?_) (fun c => ?_)
    · have e : n = "int" := by simpa using c
      subst e
      obtain ⟨i, rfl⟩ := hk.is_int
      exact ⟨_, rfl, _, _, rfl, rfl, q⟩
    · have e : cnt v = false := by
        cases v <;> first | rfl | skip
        obtain ⟨h, _⟩ := hk
        generalize et : Value.type n = t at h
        cases h with
        | base b => cases b; injection et with et; subst et; exact absurd rfl c
      rw [e] at q
      exact q
theorem ok_is_count_to (T : Txt K mg A) : FnOk P w K mg base CX0 3 A.f_is_count_to A.d_is_count_to ["value", "most"] (sp_is_count_to K A) := by
  have G_is_count := ok_is_count (P := P) (w := w) (base := base) T
  refine T.F_is_count_to.ok sc_is_count_to (fun vs H Q E h => ?_) (fun cdv A0 outer s H vs Q E hr h => ?_)
  · obtain ⟨v, n, m, rfl, hk, q⟩ := h
    rfl
  · obtain ⟨v, n, m, rfl, hk, q⟩ := h
    refine ⟨_, (pss_one (ps_ret (pe_and (pe_call G_is_count (hr.mono (by decide)) rfl T.m_is_count T.k_is_count T.b_is_count .nil pass0 (pa_cons (pv 0) pa_nil)) (pe_one (pe_cmpR op_le (pv 0) (pv 1) (nomark _)))))), ?_⟩
    refine ⟨_, rfl, v, n, rfl, hk, _, rfl, ?_⟩
    refine ite2 (fun c => ?_) (fun c => ?_)
    · cases v with
      | int i =>
        have c : 0 ≤ i := by simpa [cnt] using c
        refine ⟨_, rfl, _, rfl, _, _, rfl, rfl, ?_⟩
        have e : cntTo m (.int i) = decide (i ≤ m) := by unfold cntTo; simp [c]
        rw [e] at q
        exact q
      | _ => simp [cnt] at c
    · have e : cntTo m v = false := by
        cases v <;> first | rfl | skip
        rename_i i
        have c : ¬ 0 ≤ i := by simpa [cnt] using c
        unfold cntTo; simp [c]
      rw [e] at q
      exact q
theorem ok_rounded_up (T : Txt K mg A) : FnOk P w K mg base CX0 1 A.f_rounded_up A.d_rounded_up ["units", "parts"] (sp_rounded_up K A) := by
  refine T.F_rounded_up.ok sc_rounded_up (fun vs H Q E h => ?_) (fun cdv A0 outer s H vs Q E hr h => ?_)
  · obtain ⟨u, p, rfl, h1, h2, q⟩ := h
    rfl
  · obtain ⟨u, p, rfl, h1, h2, q⟩ := h
    refine ⟨_, (pss_one (ps_ret (pe_op op_fdiv (pe_op op_sub (pe_op op_add (pv 0) (pv 1)) pe_int) (pv 1)))), ?_⟩
    exact ⟨_, rfl, _, rfl, _, _, rfl, rfl, _, _, rfl, rfl, _, rfl, _, _, rfl, rfl, ⟨h1, h2⟩, q⟩
end
end VK


namespace VK
open PySem PySem.Spec PyProof.Rows L2 VM
def KdS (K : PySem.W.Frag) (H : Hp) (v : V) (n : String) : Prop := ∀ H', Same H H' → Kd K H' v n
theorem KdS.same {K : PySem.W.Frag} {H H' : Hp} {v : V} {n : String} (h : KdS K H v n) (s : Same H H') : KdS K H' v n := fun G t => h G (s.trans t)
theorem KdS.kd {K : PySem.W.Frag} {H : Hp} {v : V} {n : String} (h : KdS K H v n) : Kd K H v n := h H (Same.refl _)
/-- what is raised of a value that is refused -/
def BadV (C : Addr) (f : Str) (v : V) (H : Hp) (E : XK) : Prop := ∀ H' d, Same H H' → H' d = some (.xd [(f, v)]) → E (.ref C) (some d) H'
theorem BadV.same {C : Addr} {f : Str} {v : V} {H H1 : Hp} {E : XK} (b : BadV C f v H E) (s : Same H H1) : BadV C f v H1 E := fun H' d s' e => b H' d (s.trans s') e
def Init1 (C : Addr) (f : Str) : Sp := fun vs H Q _ => ∃ (e : Addr) (y : V), vs = [.ref e, y] ∧ H e = some (exo e C none) ∧ ∀ d, H d = none → d ≠ e → Q .non (upd (upd H d (exd d [(f, y)])) e (exo e C (some d)))
def sp_InvalidLength_init (_ : PySem.W.Frag) (A : Ad) : Sp := Init1 A.InvalidLength "value"
def sp_InvalidCount_init (_ : PySem.W.Frag) (A : Ad) : Sp := Init1 A.InvalidCount "value"
def sp_InvalidRecord_init (_ : PySem.W.Frag) (A : Ad) : Sp := Init1 A.InvalidRecord "position"
/-- the new error of one field, raised -/
theorem raise1 {C : Addr} {f : Str} {v : V} {H : Hp} {E : XK} (b : BadV C f v H E) : ∀ a, H a = none → Init1 C f [.ref a, v] (upd H a (exo a C none))
    (fun z H2 => z = .non ∧ ∃ (d : Addr) (fs : List (Str × V)), H2 a = some (exo a C (some d)) ∧ H2 d = some (exd d fs) ∧ H d = none ∧ E (.ref C) (some d) (upd (del H2 a) d (.xd fs))) (fun _ _ _ => False) := by
  intro a ha
  refine ⟨a, v, rfl, upd_same, fun d hd hda => ⟨rfl, d, [(f, v)], upd_same, ?_, ?_, ?_⟩⟩
  · rw [upd_ne hda]; exact upd_same
  · rw [upd_ne hda] at hd; exact hd
  · rw [upd_ne hda] at hd
    refine b _ d (fun c o q => ?_) upd_same
    have nd : c ≠ d := ne_of_none q hd
    have na : c ≠ a := ne_of_none q ha
    rw [upd_ne nd, del_ne na, upd_ne na, upd_ne nd, upd_ne na]
    exact q
def sp_require_count (K : PySem.W.Frag) (A : Ad) : Sp := fun vs H Q E => ∃ v n, vs = [v] ∧ Kd K H v n ∧ (cnt v = true → Q .non H) ∧ (cnt v = false → BadV A.InvalidCount "value" v H E)
def sp_require_count_to (K : PySem.W.Frag) (A : Ad) : Sp := fun vs H Q E => ∃ v n m, vs = [v, .int m] ∧ Kd K H v n ∧ (cntTo m v = true → Q .non H) ∧ (cntTo m v = false → BadV A.InvalidCount "value" v H E)
section
variable {P : Program} {w : World} {K : PySem.W.Frag} {mg : Str → Option Value} {base : Heap} {A : Ad}
theorem ok_InvalidLength_init (T : Txt K mg A) : FnOk P w K mg base CX0 1 A.f_InvalidLength_init A.d_InvalidLength_init ["self", "value"] (sp_InvalidLength_init K A) := by
  refine T.F_InvalidLength_init.ok sc_InvalidLength_init (fun vs H Q E h => ?_) (fun cdv A0 outer s H vs Q E hr h => ?_)
  · obtain ⟨e, y, rfl, he, k⟩ := h
    rfl
  · obtain ⟨e, y, rfl, he, k⟩ := h
    refine ⟨_, (pss_one (VX.ps_put (pv 0) (pv 1))), ?_⟩
    exact ⟨_, rfl, _, rfl, e, A.InvalidLength, rfl, T.O_InvalidLength, T.n_InvalidLength_value, .inl ⟨he, fun d hd hde => k d hd hde⟩⟩
theorem ok_InvalidCount_init (T : Txt K mg A) : FnOk P w K mg base CX0 1 A.f_InvalidCount_init A.d_InvalidCount_init ["self", "value"] (sp_InvalidCount_init K A) := by
  refine T.F_InvalidCount_init.ok sc_InvalidCount_init (fun vs H Q E h => ?_) (fun cdv A0 outer s H vs Q E hr h => ?_)
  · obtain ⟨e, y, rfl, he, k⟩ := h
    rfl
  · obtain ⟨e, y, rfl, he, k⟩ := h
    refine ⟨_, (pss_one (VX.ps_put (pv 0) (pv 1))), ?_⟩
    exact ⟨_, rfl, _, rfl, e, A.InvalidCount, rfl, T.O_InvalidCount, T.n_InvalidCount_value, .inl ⟨he, fun d hd hde => k d hd hde⟩⟩
theorem ok_InvalidRecord_init (T : Txt K mg A) : FnOk P w K mg base CX0 1 A.f_InvalidRecord_init A.d_InvalidRecord_init ["self", "position"] (sp_InvalidRecord_init K A) := by
  refine T.F_InvalidRecord_init.ok sc_InvalidRecord_init (fun vs H Q E h => ?_) (fun cdv A0 outer s H vs Q E hr h => ?_)
  · obtain ⟨e, y, rfl, he, k⟩ := h
    rfl
  · obtain ⟨e, y, rfl, he, k⟩ := h
    refine ⟨_, (pss_one (VX.ps_put (pv 0) (pv 1))), ?_⟩
    exact ⟨_, rfl, _, rfl, e, A.InvalidRecord, rfl, T.O_InvalidRecord, T.n_InvalidRecord_position, .inl ⟨he, fun d hd hde => k d hd hde⟩⟩
theorem ok_require_count (T : Txt K mg A) : FnOk P w K mg base (L2.CX P w) 3 A.f_require_count A.d_require_count ["value"] (sp_require_count K A) := by
  have G_InvalidCount_init := ok_InvalidCount_init (P := P) (w := w) (base := base) T
  have G_is_count := ok_is_count (P := P) (w := w) (base := base) T
  refine T.F_require_count.okX sc_require_count (fun vs H Q E h => ?_) (fun cdv A0 outer s H vs Q E hr h => ?_)
  · obtain ⟨v, n, rfl, hk, q, b⟩ := h
    rfl
  · obtain ⟨v, n, rfl, hk, q, b⟩ := h
    refine ⟨_, (pss_one (ps_if (pt_not (pt_val (pe_call G_is_count (hr.mono (by decide)) rfl T.m_is_count T.k_is_count T.b_is_count .nil pass0 (pa_cons (pv 0) pa_nil)))) (pss_one (ps_raise rfl (takes_of rfl rfl rfl rfl) (VX.pmk_new T.O_InvalidCount T.iC_InvalidCount T.tI_InvalidCount G_InvalidCount_init (hr.mono (by decide)) T.b_InvalidCount_init pass0 rfl T.m_InvalidCount (pa_cons (pv 0) pa_nil)))) pss_nil)), ?_⟩
    refine ⟨_, rfl, v, n, rfl, hk, ?_⟩
    cases e : cnt v with
    | true => exact ⟨_, rfl, iteF (q e)⟩
    | false => exact ⟨_, rfl, iteT ⟨_, rfl, (by show 1 ≤ 1000; decide), raise1 (b e)⟩⟩
theorem ok_require_count_to (T : Txt K mg A) : FnOk P w K mg base (L2.CX P w) 4 A.f_require_count_to A.d_require_count_to ["value", "most"] (sp_require_count_to K A) := by
  have G_InvalidCount_init := ok_InvalidCount_init (P := P) (w := w) (base := base) T
  have G_is_count_to := ok_is_count_to (P := P) (w := w) (base := base) T
  refine T.F_require_count_to.okX sc_require_count_to (fun vs H Q E h => ?_) (fun cdv A0 outer s H vs Q E hr h => ?_)
  · obtain ⟨v, n, m, rfl, hk, q, b⟩ := h
    rfl
  · obtain ⟨v, n, m, rfl, hk, q, b⟩ := h
    refine ⟨_, (pss_one (ps_if (pt_not (pt_val (pe_call G_is_count_to (hr.mono (by decide)) rfl T.m_is_count_to T.k_is_count_to T.b_is_count_to .nil pass0 (pa_cons (pv 0) (pa_cons (pv 1) pa_nil))))) (pss_one (ps_raise rfl (takes_of rfl rfl rfl rfl) (VX.pmk_new T.O_InvalidCount T.iC_InvalidCount T.tI_InvalidCount G_InvalidCount_init (hr.mono (by decide)) T.b_InvalidCount_init pass0 rfl T.m_InvalidCount (pa_cons (pv 0) pa_nil)))) pss_nil)), ?_⟩
    refine ⟨_, rfl, _, rfl, v, n, m, rfl, hk, ?_⟩
    cases e : cntTo m v with
    | true => exact ⟨_, rfl, iteF (q e)⟩
    | false => exact ⟨_, rfl, iteT ⟨_, rfl, (by show 1 ≤ 1000; decide), raise1 (b e)⟩⟩
end
end VK


namespace VK
open PySem PySem.Spec PyProof.Rows L2 VM
theorem getD_map {xs : List Int} {j : Nat} (h : j < xs.length) : (xs.map V.int)[j]? = some (.int (xs.getD j 0)) := by
  rw [List.getElem?_map, List.getD_eq_getElem?_getD, List.getElem?_eq_getElem h]
  rfl
theorem at_map {xs : List Int} {i : Int} (h0 : 0 ≤ i) (h : i < xs.length) : atI (xs.map V.int) i = some (.int (xs.getD i.toNat 0)) := by
  have e : i = ((i.toNat : Nat) : Int) := by omega
  rw [e]
  exact atI_nat (getD_map (by omega))
theorem at_back {xs : List Int} {i : Int} (h0 : i < 0) (h : -(xs.length : Int) ≤ i) : atI (xs.map V.int) i = some (.int (xs.getD (i + xs.length).toNat 0)) := by
  unfold atI ixN
  rw [if_neg (by omega), List.length_map, if_pos h]
  show (xs.map V.int)[_]? = _
  exact getD_map (by omega)
theorem deq_int {a b : Int} : decide (V.int a = V.int b) = decide (a = b) := by
  by_cases h : a = b
  · subst h; simp
  · rw [decide_eq_false h, decide_eq_false (fun q => h (V.int.inj q))]
/-- a test of two ints on equality -/
theorem ifEq {a b : Int} {X Y : Prop} (h1 : a = b → X) (h2 : a ≠ b → Y) : if decide (V.int a = V.int b) = true then X else Y := by
  rw [deq_int]
  exact ite2 (fun c => h1 (of_decide_eq_true c)) fun c => h2 fun e => c (decide_eq_true e)
theorem ifD {c X Y : Prop} [Decidable c] (h1 : c → X) (h2 : ¬ c → Y) : if decide c = true then X else Y :=
  ite2 (fun e => h1 (of_decide_eq_true e)) fun e => h2 fun q => e (decide_eq_true q)
def sp_value_at (K : PySem.W.Frag) (_ : Ad) : Sp := fun vs H Q _ => ∃ (l : Addr) (xs : List Int) (p g t : Int), vs = [.ref l, .int p, .int g, .int t] ∧
  SqL K H l (xs.map V.int) ∧ 0 < p ∧ p ≤ xs.length ∧ xs.length ≤ 1000 ∧ 0 ≤ t ∧ t < 2 ^ 62 ∧ Q (.int (cvAt xs p g t)) H
section
variable {P : Program} {w : World} {K : PySem.W.Frag} {mg : Str → Option Value} {base : Heap} {A : Ad}
theorem ok_value_at (T : Txt K mg A) : FnOk P w K mg base CX0 2 A.f_value_at A.d_value_at ["values", "period", "gain", "length"] (sp_value_at K A) := by
  have G_rounded_up := ok_rounded_up (P := P) (w := w) (base := base) T
  refine T.F_value_at.ok sc_value_at (fun vs H Q E h => ?_) (fun cdv A0 outer s H vs Q E hr h => ?_)
  · obtain ⟨l, xs, p, g, t, rfl, hS, hp, hpn, hn, ht, htb, q⟩ := h
    rfl
  · obtain ⟨l, xs, p, g, t, rfl, hS, hp, hpn, hn, ht, htb, q⟩ := h
    refine ⟨_, (pss_cons (ps_if (pt_cmpR op_eq (pv 3) pe_int (nomark _)) (pss_one (ps_ret pe_int)) pss_nil)
    (pss_cons (ps_if (pt_cmpR op_le (pv 3) (pe_callB (r := VG.rLen K) VG.call_len (by rfl) T.len (by decide +kernel) (pa_cons (pv 0) pa_nil)) (nomark _)) (pss_one (ps_ret (pe_ix (r := rIxL K) ix_list (pv 0) (pe_op op_sub (pv 3) pe_int) (fun _ _ => rfl)))) pss_nil)
    (pss_cons (ps_set (i := 4) sc_value_at.nd rfl (by first | exact Or.inl rfl | exact Or.inr rfl) (pe_call G_rounded_up (hr.mono (by decide)) rfl T.m_rounded_up T.k_rounded_up T.b_rounded_up .nil pass0 (pa_cons (pe_op op_sub (pv 3) (pe_callB (r := VG.rLen K) VG.call_len (by rfl) T.len (by decide +kernel) (pa_cons (pv 0) pa_nil))) (pa_cons (pv 1) pa_nil))))
    (pss_one (ps_ret (pe_op op_add (pe_ix (r := rIxL K) ix_list (pv 0) (pe_op op_sub (pe_op op_sub (pv 3) (pe_op op_mul (pv 4) (pv 1))) pe_int) (fun _ _ => rfl)) (pe_op op_mul (pv 4) (pv 2)))))))), ?_⟩
    refine ⟨_, rfl, rfl, _, rfl, ifEq (fun c => ?_) (fun c => ?_)⟩
    · subst c
      rw [cvAt_zero] at q
      exact q
    refine ⟨_, rfl, _, rfl, l, _, rfl, .inl hS, _, _, rfl, rfl, _, rfl, ifD (fun c1 => ?_) (fun c1 => ?_)⟩
    · rw [List.length_map] at c1
      rw [cvAt_in (by omega) c1] at q
      exact ⟨_, rfl, _, rfl, _, _, rfl, rfl, l, _, _, _, rfl, rfl, hS, at_map (by omega) (by omega), q⟩
    · rw [List.length_map] at c1
      obtain ⟨r1, r2, r3⟩ := rounds_spec (n := (xs.length : Int)) (t := t) hp (by omega)
      have rb : (t - (xs.length : Int) + p - 1) / p ≤ t := by
        have := Int.ediv_le_self p (show 0 ≤ t - (xs.length : Int) + p - 1 by omega)
        omega
      refine ⟨_, rfl, _, rfl, l, _, rfl, .inl hS, _, _, rfl, rfl, _, rfl, _, _, rfl, hp, by omega, ?_⟩
      rw [List.length_map]
      refine ⟨_, rfl, _, rfl, _, rfl, _, rfl, _, _, rfl, rfl, .inl ⟨by omega, by omega⟩, _, _, rfl, rfl, _, _, rfl, rfl, l, _, _, _, rfl, rfl, hS, at_map (by omega) (by omega),
        _, rfl, _, rfl, _, _, rfl, rfl, .inl ⟨by omega, by omega⟩, _, _, rfl, rfl, ?_⟩
      unfold cvAt at q
      rw [if_neg c, if_neg c1] at q
      exact q
end
end VK


namespace VK
open PySem PySem.Spec PyProof.Rows L2 VM
/-- f's values at 0, 1, .. below m -/
def row (f : Int → Int) (m : Nat) : List Int := (List.range m).map fun (i : Nat) => f i
theorem row_length {f : Int → Int} {m : Nat} : (row f m).length = m := by simp [row]
theorem row_getD {f : Int → Int} {m i : Nat} (h : i < m) : (row f m).getD i 0 = f i := by
  unfold row
  rw [List.getD_eq_getElem?_getD, List.getElem?_map, List.getElem?_range h]
  rfl
theorem at_row {f : Int → Int} {m : Nat} {i : Int} (h0 : 0 ≤ i) (h : i < m) : atI ((row f m).map V.int) i = some (.int (f i)) := by
  rw [at_map h0 (by rw [row_length]; exact h), row_getD (by omega)]
  congr 3; omega
theorem row_succ {f : Int → Int} {m : Nat} : row f (m + 1) = row f m ++ [f m] := by
  unfold row; rw [List.range_succ, List.map_append]; rfl
theorem rowI_succ {f : Int → Int} {m : Nat} : (row f (m + 1)).map V.int = (row f m).map V.int ++ [V.int (f m)] := by
  rw [row_succ, List.map_append]; rfl
theorem small {n : Nat} (h : n ≤ 16777215) : n < sizeLine := by rw [sizeLine_eq]; omega
/-- a new object leaves what was tracked -/
theorem Same.upd {H H' : Hp} {p : Addr} {o : HO} (e : Same H H') (h : H p = none) : Same H (upd H' p o) := fun b u q => by
  rw [upd_ne (ne_of_none q h)]; exact e b u q
theorem steps_eq {f : Int → Int} {n p d m M : Int} (hp : 0 < p)
    (h1 : m ∈ row (fun i => f (n + 1 + i) - f (n + 1 + i - d)) p.toNat) (h2 : ∀ y ∈ row (fun i => f (n + 1 + i) - f (n + 1 + i - d)) p.toNat, m ≤ y)
    (h4 : ∀ y ∈ row (fun i => f (n + 1 + i) - f (n + 1 + i - d)) p.toNat, y ≤ M) (h3 : M ∈ row (fun i => f (n + 1 + i) - f (n + 1 + i - d)) p.toNat) :
    m = M ↔ stepsEq f n p d = true := by
  have mem : ∀ y, y ∈ row (fun i => f (n + 1 + i) - f (n + 1 + i - d)) p.toNat ↔ ∃ i : Nat, i < p.toNat ∧ f (n + 1 + i) - f (n + 1 + i - d) = y := by
    intro y
    unfold row
    rw [List.mem_map]
    exact ⟨fun ⟨i, a, b⟩ => ⟨i, List.mem_range.mp a, b⟩, fun ⟨i, a, b⟩ => ⟨i, List.mem_range.mpr a, b⟩⟩
  have f0 := (mem (f (n + 1 + (0 : Nat)) - f (n + 1 + (0 : Nat) - d))).mpr ⟨0, by omega, rfl⟩
  have z : n + 1 + ((0 : Nat) : Int) = n + 1 := by omega
  rw [z] at f0
  unfold stepsEq
  rw [List.all_eq_true]
  constructor
  · intro e i hi
    have hy := (mem _).mpr ⟨i, List.mem_range.mp hi, rfl⟩
    have a := h2 _ hy; have b := h4 _ hy
    have c := h2 _ f0; have d' := h4 _ f0
    exact decide_eq_true (by omega)
  · intro h
    obtain ⟨i, hi, ei⟩ := (mem m).mp h1
    obtain ⟨j, hj, ej⟩ := (mem M).mp h3
    have a := of_decide_eq_true (h i (List.mem_range.mpr hi))
    have b := of_decide_eq_true (h j (List.mem_range.mpr hj))
    omega
def sp_least_period (K : PySem.W.Frag) (_ : Ad) : Sp := fun vs H Q _ => ∃ (l : Addr) (f : Int → Int) (n p : Int), vs = [.ref l, .int n, .int p] ∧
  SqL K H l ((row f (n + p + 1).toNat).map V.int) ∧ 0 < p ∧ 0 ≤ n ∧ p ≤ 1000 ∧ n ≤ 1000 ∧ p ≤ n ∧
  ∀ H' t, Same H H' → H t = none → H' t = some (.tup [.int (leastP f n p).1, .int (leastP f n p).2]) → Q (.ref t) H'
section
variable {P : Program} {w : World} {K : PySem.W.Frag} {mg : Str → Option Value} {base : Heap} {A : Ad}
theorem ok_least_period (T : Txt K mg A) : FnOk P w K mg base CX0 1 A.f_least_period A.d_least_period ["row", "many", "period"] (sp_least_period K A) := by
  refine T.F_least_period.ok sc_least_period (fun vs H Q E h => ?_) (fun cdv A0 outer s H vs Q E hr h => ?_)
  · obtain ⟨l, f, n, p, rfl, hS, hp, hn, hpb, hnb, hpn, k⟩ := h
    rfl
  · obtain ⟨l, f, n, p, rfl, hS, hp, hn, hpb, hnb, hpn, k⟩ := h
    refine ⟨_, (pss_cons (ps_for PassesOwn.never rfl (pi_range2 rfl T.range (pa_cons pe_int (pa_cons (pv 2) pa_nil))) (pg_name (i := 3) sc_least_period.nd rfl (by first | exact Or.inl rfl | exact Or.inr rfl))
      (pss_one (ps_if (pt_cmpR op_eq (pe_op op_mod (pv 2) (pv 3)) pe_int (nomark _)) (pss_cons (ps_setLc (i := 4) (own := [("length", 5)]) (g := gName 5) (tt := tYes) rfl sc_least_period.nd rfl rfl (sw_true rfl rfl rfl (by decide +kernel)) (pi_range2 rfl T.range (pa_cons (pe_op op_add (pv 1) pe_int) (pa_cons (pe_op op_add (pe_op op_add (pv 1) (pv 2)) pe_int) pa_nil))) (blkOk_by (own := [("length", 5)]) (N := ["row", "many", "period", "least", "steps", "length"]) (sc := defScope s_least_period) (by decide +kernel)) (fun _ _ _ _ _ => pg_name (i := 5) sc_least_period.nd rfl (by first | exact Or.inl rfl | exact Or.inr rfl)) (fun _ _ _ _ _ => pts_nil) (fun _ _ _ _ _ => (pe_op op_sub (pe_ix (r := rIxL K) ix_list (pv 0) (pv 5) (fun _ _ => rfl)) (pe_ix (r := rIxL K) ix_list (pv 0) (pe_op op_sub (pv 5) (pv 3)) (fun _ _ => rfl)))))
    (pss_one (ps_if (pt_cmpR op_eq (pe_callB (r := rMin K) (cr_min rfl) (by rfl) T.min (by decide +kernel) (pa_cons (pv 4) pa_nil)) (pe_callB (r := rMax K) (cr_max rfl) (by rfl) T.max (by decide +kernel) (pa_cons (pv 4) pa_nil)) (nomark _)) (pss_one (ps_ret (pe_tup (pa_cons (pv 3) (pa_cons (pe_ix (r := rIxL K) ix_list (pv 4) pe_int (fun _ _ => rfl)) pa_nil))))) pss_nil))) pss_nil)))
    (pss_one (ps_ret (pe_tup (pa_cons (pv 2) (pa_cons (pe_op op_sub (pe_ix (r := rIxL K) ix_list (pv 0) (pe_op op_add (pv 1) (pv 2)) (fun _ _ => rfl)) (pe_ix (r := rIxL K) ix_list (pv 0) (pv 1) (fun _ _ => rfl))) pa_nil)))))), ?_⟩
    refine ⟨_, rfl, _, _, rfl, ⟨by omega, by omega, by omega, by omega⟩, for_range (lo := 1) (n := (p - 1).toNat)
      (fun i σ H' => ∃ v3 v4 v5, σ = [some (.ref l), some (.int n), some (.int p), v3, v4, v5] ∧ Same H H' ∧ leastP f n p = leastFrom f n p ((p - 1).toNat - i) (1 + i))
      ⟨_, _, _, rfl, Same.refl H, rfl⟩ ?_ ?_⟩
    · rintro i' σ H' hi ⟨v3, v4, v5, rfl, s0, e⟩
      have ek : (p - 1).toNat - i' = ((p - 1).toNat - (i' + 1)) + 1 := by omega
      rw [ek] at e
      unfold leastFrom at e
      refine ⟨_, rfl, _, rfl, _, _, rfl, rfl, (show (0 : Int) < 1 + i' by omega), rfl, _, rfl, ifEq (fun c => ?_) (fun c => ?_)⟩
      · refine ⟨_, rfl, _, _, rfl, rfl, _, rfl, _, rfl, _, _, rfl, rfl, _, _, rfl, rfl, _, _, rfl, ⟨by omega, by omega, by omega, by omega⟩, fun D hD => lc_range (lo := n + 1) (n := (n + p + 1 - (n + 1)).toNat)
          (fun j H2 => H2 D = some (.lst ((row (fun i => f (n + 1 + i) - f (n + 1 + i - (1 + i'))) j).map V.int)) ∧ Same H H2) ?_ ?_ ?_⟩
        · exact ⟨upd_same, Same.upd s0 (s0.free hD)⟩
        · rintro j H2 hj ⟨hD2, s2⟩
          refine ⟨rfl, _, rfl, _, rfl, l, _, _, _, rfl, rfl, s2.seq hS, at_row (by omega) (by omega), _, rfl, _, rfl, _, rfl, _, _, rfl, rfl, l, _, _, _, rfl, rfl, s2.seq hS, at_row (by omega) (by omega), _, _, rfl, rfl,
            _, hD2, small (by rw [List.length_map, row_length]; omega), ?_, ?_⟩
          · rw [upd_same, rowI_succ]
          · exact Same.upd s2 (s0.free hD)
        · rintro H2 ⟨hD2, s2⟩
          have eN : (n + p + 1 - (n + 1)).toNat = p.toNat := by omega
          rw [eN] at hD2
          have hl : 0 < (row (fun i => f (n + 1 + i) - f (n + 1 + i - (1 + i'))) p.toNat).length := by rw [row_length]; omega
          refine ⟨_, rfl, D, _, rfl, SqL.of hD2, hl, fun m hm hm2 => ?_⟩
          refine ⟨_, rfl, D, _, rfl, SqL.of hD2, hl, fun M hM hM2 => ?_⟩
          have key := steps_eq hp hm hm2 hM2 hM
          refine ⟨rfl, _, rfl, ifEq (fun c2 => ?_) (fun c2 => ?_)⟩
          · refine ⟨_, rfl, _, rfl, D, _, _, _, rfl, rfl, SqL.of hD2, at_row (by omega) (by omega), (by show 2 ≤ sizeLine; decide), fun t ht => ?_⟩
            rw [if_pos ⟨c, key.mp c2⟩] at e
            refine k _ t (Same.upd s2 (s2.free ht)) (s2.free ht) ?_
            rw [upd_same, e]
            simp
          · refine ⟨_, _, _, rfl, s2, ?_⟩
            rw [if_neg (fun z => c2 (key.mpr z.2))] at e
            rw [e]
            congr 1
      · refine ⟨_, _, _, rfl, s0, ?_⟩
        rw [if_neg (fun z => c z.1)] at e
        rw [e]
        congr 1
    · rintro σ H' ⟨v3, v4, v5, rfl, s0, e⟩
      rw [Nat.sub_self] at e
      unfold leastFrom at e
      refine ⟨_, rfl, _, rfl, _, rfl, _, rfl, _, _, rfl, rfl, l, _, _, _, rfl, rfl, s0.seq hS, at_row (by omega) (by omega), _, rfl, _, rfl, l, _, _, _, rfl, rfl, s0.seq hS, at_row (by omega) (by omega), _, _, rfl, rfl, (by show 2 ≤ sizeLine; decide), fun t ht => ?_⟩
      refine k _ t (Same.upd s0 (s0.free ht)) (s0.free ht) ?_
      rw [upd_same, e]
end
end VK


namespace VK
open PySem PySem.Spec PyProof.Rows L2 VM
theorem cut_nat {xs : List V} {a b : Nat} (h1 : a ≤ xs.length) (h2 : b ≤ xs.length) : cutV xs (some (a : Int)) (some (b : Int)) = (xs.drop a).take (b - a) := by
  unfold cutV
  rw [HT.sIx_nat, HT.sIx_nat, Nat.min_eq_left h1, Nat.min_eq_left h2]
theorem cut_row {f : Int → Int} {N m : Nat} (h : m < N) : cutV ((row f N).map V.int) (some 1) (some ((m : Int) + 1)) = (vals f m).map V.int := by
  have e1 : (1 : Int) = ((1 : Nat) : Int) := rfl
  have e2 : (m : Int) + 1 = ((m + 1 : Nat) : Int) := by omega
  rw [e2]
  rw [show (some 1 : Option Int) = some ((1 : Nat) : Int) from rfl, cut_nat (by rw [List.length_map, row_length]; omega) (by rw [List.length_map, row_length]; omega)]
  rw [← List.map_drop, ← List.map_take]
  congr 1
  apply List.ext_getElem?
  intro i
  unfold row vals
  by_cases hi : i < m
  · rw [List.getElem?_take_of_lt (by omega), List.getElem?_drop, List.getElem?_map, List.getElem?_map, List.getElem?_range (by omega), List.getElem?_range (by omega)]
    simp only [Option.map_some]
    congr 2
    omega
  · rw [List.getElem?_eq_none (by simp; omega), List.getElem?_eq_none (by simp; omega)]
def sp_least_form (K : PySem.W.Frag) (_ : Ad) : Sp := fun vs H Q _ => ∃ (l : Addr) (xs : List Int) (p g : Int), vs = [.ref l, .int p, .int g] ∧
  SqL K H l (xs.map V.int) ∧ 0 < p ∧ p ≤ xs.length ∧ xs.length ≤ 1000 ∧
  ∀ H' t l', Same H H' → H t = none → H l' = none → H' t = some (.tup [.ref l', .int (formP xs p g).1, .int (formP xs p g).2]) → H' l' = some (.lst ((formV xs p g).map V.int)) → Q (.ref t) H'
section
variable {P : Program} {w : World} {K : PySem.W.Frag} {mg : Str → Option Value} {base : Heap} {A : Ad}
theorem ok_least_form (T : Txt K mg A) : FnOk P w K mg base CX0 3 A.f_least_form A.d_least_form ["values", "period", "gain"] (sp_least_form K A) := by
  have G_least_period := ok_least_period (P := P) (w := w) (base := base) T
  have G_value_at := ok_value_at (P := P) (w := w) (base := base) T
  refine T.F_least_form.ok sc_least_form (fun vs H Q E h => ?_) (fun cdv A0 outer s H vs Q E hr h => ?_)
  · obtain ⟨l, xs, p, g, rfl, hS, hp, hpn, hn, k⟩ := h
    rfl
  · obtain ⟨l, xs, p, g, rfl, hS, hp, hpn, hn, k⟩ := h
    refine ⟨_, (pss_cons (ps_set (i := 3) sc_least_form.nd rfl (by first | exact Or.inl rfl | exact Or.inr rfl) (pe_callB (r := VG.rLen K) VG.call_len (by rfl) T.len (by decide +kernel) (pa_cons (pv 0) pa_nil)))
    (pss_cons (ps_setLc (i := 4) (own := [("length", 7)]) (g := gName 7) (tt := tYes) rfl sc_least_form.nd rfl rfl (sw_true rfl rfl rfl (by decide +kernel)) (pi_range1 rfl T.range (pa_cons (pe_op op_add (pe_op op_add (pv 3) (pv 1)) pe_int) pa_nil)) (blkOk_by (own := [("length", 7)]) (N := ["values", "period", "gain", "many", "row", "least", "step", "length"]) (sc := defScope s_least_form) (by decide +kernel)) (fun _ _ _ _ _ => pg_name (i := 7) sc_least_form.nd rfl (by first | exact Or.inl rfl | exact Or.inr rfl)) (fun _ _ _ _ _ => pts_nil) (fun _ _ _ _ _ => (pe_call G_value_at (hr.mono (by decide)) rfl T.m_value_at T.k_value_at T.b_value_at .nil pass0 (pa_cons (pv 0) (pa_cons (pv 1) (pa_cons (pv 2) (pa_cons (pv 7) pa_nil)))))))
    (pss_cons (ps_asg (pe_call G_least_period (hr.mono (by decide)) rfl T.m_least_period T.k_least_period T.b_least_period .nil pass0 (pa_cons (pv 4) (pa_cons (pv 3) (pa_cons (pv 1) pa_nil)))) (pg_tup rfl (pgs_cons (pg_name (i := 5) sc_least_form.nd rfl (by first | exact Or.inl rfl | exact Or.inr rfl)) (pgs_cons (pg_name (i := 6) sc_least_form.nd rfl (by first | exact Or.inl rfl | exact Or.inr rfl)) pgs_nil))))
    (pss_cons (ps_while PassesOwn.never (PW.pt (pw_and (pt_cmpR op_gt (pv 3) (pv 5) (nomark _)) (pw_and1 (pt_cmpR op_eq (pe_ix (r := rIxL K) ix_list (pv 4) (pv 3) (fun _ _ => rfl)) (pe_op op_add (pe_ix (r := rIxL K) ix_list (pv 4) (pe_op op_sub (pv 3) (pv 5)) (fun _ _ => rfl)) (pv 6)) (nomark _))))) (pss_one (ps_aug (i := 3) sc_least_form.nd rfl (.inl rfl) pe_int ip_sub)))
    (pss_one (ps_ret (pe_tup (pa_cons (pe_slice (r := rSlL K) sl_list (pv 4) (po_some pe_int) (po_some (pe_op op_add (pv 3) pe_int))) (pa_cons (pv 5) (pa_cons (pv 6) pa_nil)))))))))), ?_⟩
    refine ⟨_, rfl, l, _, rfl, .inl hS, ?_⟩
    rw [List.length_map]
    refine ⟨_, rfl, _, rfl, _, _, rfl, rfl, _, _, rfl, rfl, _, rfl, by omega, by omega, fun D hD => lc_range (lo := 0) (n := ((xs.length : Int) + p + 1).toNat)
      (fun j H2 => H2 D = some (.lst ((row (cvAt xs p g) j).map V.int)) ∧ Same H H2) ?_ ?_ ?_⟩
    · exact ⟨upd_same, Same.upd (Same.refl H) hD⟩
    · rintro j H2 hj ⟨hD2, s2⟩
      refine ⟨rfl, _, rfl, _, rfl, _, rfl, _, rfl, l, xs, p, g, _, rfl, s2.seq hS, hp, hpn, hn, by omega, by omega, _, hD2, small (by rw [List.length_map, row_length]; omega), ?_, ?_⟩
      · rw [upd_same, rowI_succ]
        rw [Int.zero_add]
      · exact Same.upd s2 hD
    · rintro H2 ⟨hD2, s2⟩
      refine ⟨_, rfl, _, rfl, _, rfl, D, cvAt xs p g, xs.length, p, rfl, SqL.of hD2, hp, by omega, by omega, by omega, hpn, fun H3 t s3 ht0 ht => ?_⟩
      refine ⟨t, _, rfl, .inl (.inl ht), rfl, _, _, rfl, _, _, rfl, rfl, ?_⟩
      obtain ⟨q1, q2, q3⟩ := leastP_spec (Rep.cvAt (g := g) hp hpn) hp
      have hP : formP xs p g = leastP (cvAt xs p g) xs.length p := rfl
      rw [← hP] at q1 q2 ht ⊢
      generalize hd : (formP xs p g).1 = d at *
      generalize hs : (formP xs p g).2 = st at *
      refine ⟨fun (m : Nat) (σ : L2.St) (H' : Hp) => σ = [some (.ref l), some (.int p), some (.int g), some (.int (m : Nat)), some (.ref D), some (.int d), some (.int st), none] ∧ Same H2 H' ∧ m ≤ xs.length ∧ d ≤ m ∧
        shr (cvAt xs p g) d st xs.length = shr (cvAt xs p g) d st m, ⟨xs.length, rfl, s3, Nat.le_refl _, by omega, rfl⟩, ?_⟩
      rintro m σ H4 ⟨rfl, s4, hm, hdm, e⟩
      have hD4 := s4 _ _ hD2
      have s4' : Same H H4 := s2.trans s4
      refine ⟨_, rfl, _, rfl, _, _, rfl, rfl, _, rfl, ifD (fun c => ?_) (fun c => ?_)⟩
      · refine ⟨_, rfl, _, rfl, D, _, _, _, rfl, rfl, SqL.of hD4, at_row (by omega) (by omega), _, rfl, _, rfl, _, rfl, _, _, rfl, rfl, D, _, _, _, rfl, rfl, SqL.of hD4, at_row (by omega) (by omega), _, rfl, _, _, rfl, rfl, rfl, _, rfl, ifEq (fun c2 => ?_) (fun c2 => ?_)⟩
        · refine ⟨fun σ' H' => σ' = [some (.ref l), some (.int p), some (.int g), some (.int ((m : Int) - 1)), some (.ref D), some (.int d), some (.int st), none] ∧ H' = H4, ?_, ?_⟩
          · rintro σ' H' ⟨rfl, rfl⟩
            refine ⟨m - 1, by omega, ?_, s4, by omega, by omega, ?_⟩
            · rw [show (m : Int) - 1 = ((m - 1 : Nat) : Int) by omega]
            · rw [e]
              obtain ⟨m, rfl⟩ : ∃ m', m = m' + 1 := ⟨m - 1, by omega⟩
              show shr (cvAt xs p g) d st (m + 1) = shr (cvAt xs p g) d st m
              conv => lhs; unfold shr
              rw [if_pos ⟨c, c2⟩]
          · exact ⟨_, rfl, _, _, rfl, rfl, rfl, rfl⟩
        · refine ⟨_, rfl, _, rfl, _, rfl, _, _, rfl, rfl, _, rfl, D, _, rfl, SqL.of hD4, fun l' hl' => ⟨_, rfl, _, rfl, (by show 3 ≤ sizeLine; decide), fun t' ht' => ?_⟩⟩
          have em : formM xs p g = m := by
            unfold formM
            rw [hd, hs, e]
            cases m with
            | zero => rfl
            | succ m =>
              unfold shr
              rw [if_neg (fun z => c2 z.2)]
          have nl : l' ≠ t' := fun z => by rw [← z, upd_same] at ht'; cases ht'
          have ht4 : H4 t' = none := by rw [upd_ne (Ne.symm nl)] at ht'; exact ht'
          refine k _ t' l' (Same.upd (Same.upd s4' (s4'.free hl')) (s4'.free ht4)) (s4'.free ht4) (s4'.free hl') upd_same ?_
          rw [upd_ne nl, upd_same]
          unfold formV
          rw [em, cut_row (by omega)]
      · refine ⟨_, rfl, _, rfl, _, rfl, _, _, rfl, rfl, _, rfl, D, _, rfl, SqL.of hD4, fun l' hl' => ⟨_, rfl, _, rfl, (by show 3 ≤ sizeLine; decide), fun t' ht' => ?_⟩⟩
        have em : formM xs p g = m := by
          unfold formM
          rw [hd, hs, e]
          cases m with
            | zero => rfl
            | succ m =>
              unfold shr
              rw [if_neg (fun z => c z.1)]
        have nl : l' ≠ t' := fun z => by rw [← z, upd_same] at ht'; cases ht'
        have ht4 : H4 t' = none := by rw [upd_ne (Ne.symm nl)] at ht'; exact ht'
        refine k _ t' l' (Same.upd (Same.upd s4' (s4'.free hl')) (s4'.free ht4)) (s4'.free ht4) (s4'.free hl') upd_same ?_
        rw [upd_ne nl, upd_same]
        unfold formV
        rw [em, cut_row (by omega)]
end
end VK


namespace VK
open PySem PySem.Spec PyProof.Rows L2 VM
theorem Kd.list {K : PySem.W.Frag} {H : Hp} {l : Addr} {xs : List V} (h : SqL K H l xs) : Kd K H (.ref l) "list" := by
  refine ⟨?_, by decide⟩
  rcases h with (h | ⟨o, h⟩) | ⟨o, its, n, h1, h2, _⟩
  · exact .base (.lst h)
  · exact .base (.frz h)
  · exact .kList h1 h2
/-- a curve as it may be written -/
structure OkRow (xs : List Int) (p g : Int) : Prop where
  l1 : 1 ≤ xs.length
  l2 : xs.length ≤ 24
  lo : ∀ i, i < xs.length → 0 ≤ xs.getD i 0
  hi : ∀ i, i < xs.length → xs.getD i 0 ≤ 2000
  up : ∀ i, i + 1 < xs.length → xs.getD i 0 ≤ xs.getD (i + 1) 0
  per : p = 1 ∨ p = 2 ∨ p = 3 ∨ p = 4 ∨ p = 6 ∨ p = 12
  pn : p ≤ xs.length
  g0 : 0 ≤ g
  g1 : g ≤ 2000
  last : xs.getD (xs.length - 1) 0 ≤ xs.getD (xs.length - p.toNat) 0 + g
def sp_find_problem (K : PySem.W.Frag) (_ : Ad) : Sp := fun vs H Q _ => ∃ (l : Addr) (xs : List Int) (p g : Int), vs = [.ref l, .int p, .int g] ∧
  SqL K H l (xs.map V.int) ∧ OkRow xs p g ∧ ∀ H', Same H H' → Q .non H'
section
variable {P : Program} {w : World} {K : PySem.W.Frag} {mg : Str → Option Value} {base : Heap} {A : Ad}
theorem ok_find_problem (T : Txt K mg A) : FnOk P w K mg base CX0 4 A.f_find_problem A.d_find_problem ["values", "period", "gain"] (sp_find_problem K A) := by
  have G_is_count_to := ok_is_count_to (P := P) (w := w) (base := base) T
  have G_is_integer := ok_is_integer (P := P) (w := w) (base := base) T
  refine T.F_find_problem.ok sc_find_problem (fun vs H Q E h => ?_) (fun cdv A0 outer s H vs Q E hr h => ?_)
  · obtain ⟨l, xs, p, g, rfl, hS, R, k⟩ := h
    rfl
  · obtain ⟨l, xs, p, g, rfl, hS, R, k⟩ := h
    refine ⟨_, (pss_cons (ps_if (pt_not (pt_val (pe_callB (r := rIsi K) call_isi (by rfl) T.isinstance (by decide +kernel) (pa_cons (pv 0) (pa_cons (pe_bltn (v := .ty "list") (u := .type "list") (by rfl) T.list (by decide +kernel) (by exact rfl)) pa_nil))))) (pss_one (ps_ret (pe_tup (pa_cons pe_str (pa_cons pe_int pa_nil))))) pss_nil)
    (pss_cons (ps_if (pt_not (pt_chain op_le op_le pe_int (pe_callB (r := VG.rLen K) VG.call_len (by rfl) T.len (by decide +kernel) (pa_cons (pv 0) pa_nil)) (pe_glob (v := .int 24) rfl T.v_MAX_VALUES ⟨_, rfl⟩))) (pss_one (ps_ret (pe_tup (pa_cons pe_str (pa_cons pe_int pa_nil))))) pss_nil)
    (pss_cons (ps_set (i := 3) sc_find_problem.nd rfl (by first | exact Or.inl rfl | exact Or.inr rfl) pe_int)
    (pss_cons (ps_for PassesOwn.never rfl (pi_enum (by rfl) T.enumerate (pa_cons (pv 0) pa_nil)) (pg_tup rfl (pgs_cons (pg_name (i := 4) sc_find_problem.nd rfl (by first | exact Or.inl rfl | exact Or.inr rfl)) (pgs_cons (pg_name (i := 5) sc_find_problem.nd rfl (by first | exact Or.inl rfl | exact Or.inr rfl)) pgs_nil)))
      (pss_cons (ps_if (PW.pt (pw_or (pt_not (pt_val (pe_call G_is_count_to (hr.mono (by decide)) rfl T.m_is_count_to T.k_is_count_to T.b_is_count_to .nil pass0 (pa_cons (pv 5) (pa_cons (pe_glob (v := .int 2000) rfl T.v_MAX_VALUE ⟨_, rfl⟩) pa_nil))))) (pw_or1 (pt_cmpR op_lt (pv 5) (pv 3) (nomark _))))) (pss_one (ps_ret (pe_tup (pa_cons pe_str (pa_cons (pv 4) pa_nil))))) pss_nil)
    (pss_one (ps_set (i := 3) sc_find_problem.nd rfl (by first | exact Or.inl rfl | exact Or.inr rfl) (pv 5)))))
    (pss_cons (ps_if (PW.pt (pw_or (pt_not (pt_val (pe_call G_is_integer (hr.mono (by decide)) rfl T.m_is_integer T.k_is_integer T.b_is_integer .nil pass0 (pa_cons (pv 1) pa_nil)))) (pw_or (pt_cmpR (r := rIn K true) op_notIn_seq (pv 1) (pe_glob (v := .ref A.a_PERIODS) rfl T.v_PERIODS rfl) (by rfl)) (pw_or1 (pt_cmpR op_gt (pv 1) (pe_callB (r := VG.rLen K) VG.call_len (by rfl) T.len (by decide +kernel) (pa_cons (pv 0) pa_nil)) (nomark _)))))) (pss_one (ps_ret (pe_tup (pa_cons pe_str (pa_cons pe_int pa_nil))))) pss_nil)
    (pss_cons (ps_if (PW.pt (pw_or (pt_not (pt_val (pe_call G_is_count_to (hr.mono (by decide)) rfl T.m_is_count_to T.k_is_count_to T.b_is_count_to .nil pass0 (pa_cons (pv 2) (pa_cons (pe_glob (v := .int 2000) rfl T.v_MAX_VALUE ⟨_, rfl⟩) pa_nil))))) (pw_or1 (pt_cmpR op_lt (pe_op op_add (pe_ix (r := rIxL K) ix_list (pv 0) (pe_un un_neg (pv 1)) (fun _ _ => rfl)) (pv 2)) (pe_ix (r := rIxL K) ix_list (pv 0) (pe_un un_neg pe_int) (fun _ _ => rfl)) (nomark _))))) (pss_one (ps_ret (pe_tup (pa_cons pe_str (pa_cons pe_int pa_nil))))) pss_nil)
    (pss_one (ps_ret pe_non)))))))), ?_⟩
    refine ⟨_, rfl, .ref l, .ty "list", _, _, _, rfl, .ty _, (Kd.list hS).1, (show PySem.W.kitOne K (.type "list") (.type "list") = some true from kit_ty (by decide +kernel)), _, rfl, iteF ?_⟩
    have l1 := R.l1
    have l2 := R.l2
    refine ⟨_, rfl, l, _, rfl, .inl hS, _, _, rfl, rfl, _, rfl, ?_⟩
    rw [List.length_map]
    refine ifD (fun _ => ?_) (fun c => absurd (show (1 : Int) ≤ xs.length by omega) c)
    refine ⟨_, _, rfl, rfl, _, rfl, iteNS (by omega) ?_⟩
    -- before = 0; the loop
    refine ⟨_, rfl, l, _, rfl, hS, for_it (walk_enum (K := K) (a := l) (xs := xs.map V.int)) (fun i σ H' => ∃ v5 v6, σ = [some (.ref l), some (.int p), some (.int g), some (.int (if i = 0 then 0 else xs.getD (i - 1) 0)), v5, v6] ∧ Same H H')
      ⟨_, _, rfl, Same.refl H⟩ (fun i σ H' _ ⟨_, _, _, s0⟩ => s0.seq hS) ?_ ?_⟩
    · rintro i x σ H' H2 hi ⟨v5, v6, rfl, s0⟩ ⟨t, a, b, rfl, ht, rfl, ea, eb⟩
      rw [List.length_map] at hi
      have eb' : (xs.map V.int)[i]? = some b := eb
      rw [getD_map hi] at eb'
      cases ea
      cases eb'
      have s2 : Same H (upd H' t (.tup [.int (i : Nat), .int (xs.getD i 0)])) := Same.upd s0 (s0.free ht)
      refine ⟨t, _, rfl, SqT.of upd_same, rfl, _, _, rfl, _, _, rfl, rfl, ?_⟩
      have r1 := R.lo i hi
      have r2 := R.hi i hi
      refine ⟨_, rfl, _, _, _, rfl, Kd.int _, _, rfl, ?_⟩
      have e1 : cntTo 2000 (.int (xs.getD i 0)) = true := by unfold cntTo; exact decide_eq_true ⟨r1, r2⟩
      rw [e1]
      refine iteF ⟨_, rfl, _, rfl, _, _, rfl, rfl, _, rfl, ?_⟩
      refine ifD (fun c => ?_) (fun c => ?_)
      · exfalso
        by_cases z : i = 0
        · rw [if_pos z] at c; omega
        · rw [if_neg z] at c
          have := R.up (i - 1) (by omega)
          rw [show i - 1 + 1 = i by omega] at this
          omega
      · refine ⟨_, rfl, some (.int (i : Nat)), some (.int (xs.getD i 0)), ?_, s2⟩
        rw [if_neg (Nat.succ_ne_zero i)]
        rfl
    · rintro σ H' ⟨v5, v6, rfl, s0⟩
      have hS' := s0.seq hS
      have pn := R.pn
      have g0 := R.g0
      have g1 := R.g1
      have last := R.last
      have pp : 0 < p ∧ p ≤ 12 := by rcases R.per with h | h | h | h | h | h <;> omega
      refine ⟨_, rfl, _, _, rfl, Kd.int _, _, rfl, iteF ?_⟩
      have inP : inV (.int p) [.int 1, .int 2, .int 3, .int 4, .int 6, .int 12] = true := by
        rcases R.per with h | h | h | h | h | h <;> subst h <;> decide
      refine ⟨_, rfl, A.a_PERIODS, _, rfl, .inr (T.periods H'), rfl, rfl, _, rfl, ?_⟩
      rw [inP]
      refine iteF ⟨_, rfl, _, rfl, l, _, rfl, .inl hS', _, _, rfl, rfl, _, rfl, ?_⟩
      rw [List.length_map]
      refine ifD (fun c => absurd pn (by omega)) (fun _ => ?_)
      have e1 : cntTo 2000 (.int g) = true := by unfold cntTo; exact decide_eq_true ⟨g0, g1⟩
      refine ⟨_, rfl, _, _, _, rfl, Kd.int _, _, rfl, ?_⟩
      rw [e1]
      refine iteF ⟨_, rfl, _, rfl, _, rfl, l, _, _, _, rfl, rfl, hS', at_back (by omega) (by omega), _, rfl, _, _, rfl, rfl, _, rfl, _, rfl, l, _, _, _, rfl, rfl, hS', at_back (by omega) (by omega), _, _, rfl, rfl, _, rfl, ?_⟩
      refine ifD (fun c => ?_) (fun _ => k H' s0)
      exfalso
      rw [show (-p + (xs.length : Int)).toNat = xs.length - p.toNat by omega, show (-1 + (xs.length : Int)).toNat = xs.length - 1 by omega] at c
      omega
end
end VK


namespace VK
open PySem PySem.Spec PyProof.Rows L2 VM
/-- the attributes of a curve -/
def cfs (l : Addr) (p g : Int) (w : Bool) (b : V) : List (Str × V) := [("_values", V.ref l), ("_period", V.int p), ("_gain", V.int g), ("_was_searched", V.bl w), ("_break", b)]
theorem n_vp : ¬ (("_values" : Str) = "_period") := by decide +kernel
theorem n_vg : ¬ (("_values" : Str) = "_gain") := by decide +kernel
theorem n_pg : ¬ (("_period" : Str) = "_gain") := by decide +kernel
theorem n_vw : ¬ (("_values" : Str) = "_was_searched") := by decide +kernel
theorem n_pw : ¬ (("_period" : Str) = "_was_searched") := by decide +kernel
theorem n_gw : ¬ (("_gain" : Str) = "_was_searched") := by decide +kernel
theorem n_vb : ¬ (("_values" : Str) = "_break") := by decide +kernel
theorem n_pb : ¬ (("_period" : Str) = "_break") := by decide +kernel
theorem n_gb : ¬ (("_gain" : Str) = "_break") := by decide +kernel
theorem n_wb : ¬ (("_was_searched" : Str) = "_break") := by decide +kernel
theorem put1 (v : V) : putF "_values" v [] = [(("_values" : Str), v)] := rfl
theorem put2 (v u : V) : putF "_period" u [(("_values" : Str), v)] = [(("_values" : Str), v), ("_period", u)] := by
  show (if ("_values" : Str) = "_period" then _ else (("_values" : Str), v) :: putF "_period" u []) = _
  rw [if_neg n_vp]
  rfl
theorem put3 (v u z : V) : putF "_gain" z [(("_values" : Str), v), ("_period", u)] = [(("_values" : Str), v), ("_period", u), ("_gain", z)] := by
  show (if ("_values" : Str) = "_gain" then _ else (("_values" : Str), v) :: (if ("_period" : Str) = "_gain" then _ else (("_period" : Str), u) :: putF "_gain" z [])) = _
  rw [if_neg n_vg, if_neg n_pg]
  rfl
theorem put4 (v u z y : V) : putF "_was_searched" y [(("_values" : Str), v), ("_period", u), ("_gain", z)] = [(("_values" : Str), v), ("_period", u), ("_gain", z), ("_was_searched", y)] := by
  show (if ("_values" : Str) = "_was_searched" then _ else (("_values" : Str), v) :: (if ("_period" : Str) = "_was_searched" then _ else (("_period" : Str), u) :: (if ("_gain" : Str) = "_was_searched" then _ else (("_gain" : Str), z) :: putF "_was_searched" y []))) = _
  rw [if_neg n_vw, if_neg n_pw, if_neg n_gw]
  rfl
theorem put5 (v u z y x : V) : putF "_break" x [(("_values" : Str), v), ("_period", u), ("_gain", z), ("_was_searched", y)] = [(("_values" : Str), v), ("_period", u), ("_gain", z), ("_was_searched", y), ("_break", x)] := by
  show (if ("_values" : Str) = "_break" then _ else (("_values" : Str), v) :: (if ("_period" : Str) = "_break" then _ else (("_period" : Str), u) :: (if ("_gain" : Str) = "_break" then _ else (("_gain" : Str), z) :: (if ("_was_searched" : Str) = "_break" then _ else (("_was_searched" : Str), y) :: putF "_break" x [])))) = _
  rw [if_neg n_vb, if_neg n_pb, if_neg n_gb, if_neg n_wb]
  rfl
theorem cset_w (l : Addr) (p g : Int) (w : Bool) (b : V) : putF "_was_searched" (.bl true) (cfs l p g w b) = cfs l p g true b := by
  show (if ("_values" : Str) = "_was_searched" then _ else (("_values" : Str), V.ref l) :: (if ("_period" : Str) = "_was_searched" then _ else (("_period" : Str), V.int p) :: (if ("_gain" : Str) = "_was_searched" then _ else (("_gain" : Str), V.int g) :: (if ("_was_searched" : Str) = "_was_searched" then _ else _)))) = _
  rw [if_neg n_vw, if_neg n_pw, if_neg n_gw, if_pos rfl]
  rfl
theorem cset_b (l : Addr) (p g : Int) (w : Bool) (b c : V) : putF "_break" c (cfs l p g w b) = cfs l p g w c := by
  show (if ("_values" : Str) = "_break" then _ else (("_values" : Str), V.ref l) :: (if ("_period" : Str) = "_break" then _ else (("_period" : Str), V.int p) :: (if ("_gain" : Str) = "_break" then _ else (("_gain" : Str), V.int g) :: (if ("_was_searched" : Str) = "_break" then _ else (("_was_searched" : Str), V.bl w) :: (if ("_break" : Str) = "_break" then _ else _))))) = _
  rw [if_neg n_vb, if_neg n_pb, if_neg n_gb, if_neg n_wb, if_pos rfl]
  rfl
theorem cfs_v (l : Addr) (p g : Int) (w : Bool) (b : V) : (cfs l p g w b).lookup ("_values" : Str) = some (.ref l) := by
  unfold cfs; simp [List.lookup]
theorem cfs_p (l : Addr) (p g : Int) (w : Bool) (b : V) : (cfs l p g w b).lookup ("_period" : Str) = some (.int p) := by
  have h : (("_period" : Str) == "_values") = false := by decide +kernel
  unfold cfs; simp [List.lookup, h]
theorem cfs_g (l : Addr) (p g : Int) (w : Bool) (b : V) : (cfs l p g w b).lookup ("_gain" : Str) = some (.int g) := by
  have h : (("_gain" : Str) == "_values") = false := by decide +kernel
  have h2 : (("_gain" : Str) == "_period") = false := by decide +kernel
  unfold cfs; simp [List.lookup, h, h2]
theorem cfs_w (l : Addr) (p g : Int) (w : Bool) (b : V) : (cfs l p g w b).lookup ("_was_searched" : Str) = some (.bl w) := by
  have h : (("_was_searched" : Str) == "_values") = false := by decide +kernel
  have h2 : (("_was_searched" : Str) == "_period") = false := by decide +kernel
  have h3 : (("_was_searched" : Str) == "_gain") = false := by decide +kernel
  unfold cfs; simp [List.lookup, h, h2, h3]
theorem cfs_b (l : Addr) (p g : Int) (w : Bool) (b : V) : (cfs l p g w b).lookup ("_break" : Str) = some b := by
  have h : (("_break" : Str) == "_values") = false := by decide +kernel
  have h2 : (("_break" : Str) == "_period") = false := by decide +kernel
  have h3 : (("_break" : Str) == "_gain") = false := by decide +kernel
  have h4 : (("_break" : Str) == "_was_searched") = false := by decide +kernel
  unfold cfs; simp [List.lookup, h, h2, h3, h4]
theorem cfs_no (l : Addr) (p g : Int) {w : Bool} {b : V} {m : Str} (h1 : (m == ("_values" : Str)) = false) (h2 : (m == ("_period" : Str)) = false) (h3 : (m == ("_gain" : Str)) = false) (h4 : (m == ("_was_searched" : Str)) = false := by decide +kernel) (h5 : (m == ("_break" : Str)) = false := by decide +kernel) : (cfs l p g w b).lookup m = none := by
  unfold cfs; simp [List.lookup, h1, h2, h3, h4, h5]
/-- a curve whose form is this -/
def CrvAt (A : Ad) (H : Hp) (x : Addr) (vs : List Int) (p g : Int) : Prop := ∃ dx l w b, H x = some (.ins A.Curve dx (cfs l p g w b)) ∧ H l = some (.lst (vs.map V.int))
theorem CrvAt.same {A : Ad} {H H' : Hp} {x : Addr} {vs : List Int} {p g : Int} (h : CrvAt A H x vs p g) (s : Same H H') : CrvAt A H' x vs p g := by
  obtain ⟨dx, l, w, b, h1, h2⟩ := h
  exact ⟨dx, l, w, b, s _ _ h1, s _ _ h2⟩
def sp_C_init (K : PySem.W.Frag) (A : Ad) : Sp := fun vs H Q _ => ∃ (x dx l : Addr) (xs : List Int) (p g : Int), vs = [.ref x, .ref l, .int p, .int g] ∧
  H x = some (.ins A.Curve dx []) ∧ SqL K H l (xs.map V.int) ∧ OkRow xs p g ∧
  ∀ H' dx' l', (∀ b o, b ≠ x → H b = some o → H' b = some o) → H l' = none → H' x = some (.ins A.Curve dx' (cfs l' (formP xs p g).1 (formP xs p g).2 false .non)) → H' l' = some (.lst ((formV xs p g).map V.int)) → Q .non H'
def sp_C_at (K : PySem.W.Frag) (A : Ad) : Sp := fun vs H Q _ => ∃ (x : Addr) (xs : List Int) (p g t : Int), vs = [.ref x, .int t] ∧
  CrvAt A H x xs p g ∧ 0 < p ∧ p ≤ xs.length ∧ xs.length ≤ 1000 ∧ 0 ≤ t ∧ t < 2 ^ 62 ∧ Q (.int (cvAt xs p g t)) H
section
variable {P : Program} {w : World} {K : PySem.W.Frag} {mg : Str → Option Value} {base : Heap} {A : Ad}
theorem ok_C_init (T : Txt K mg A) : FnOk P w K mg base CX0 5 A.f_C_init A.d_C_init ["self", "values", "period", "gain"] (sp_C_init K A) := by
  have G_find_problem := ok_find_problem (P := P) (w := w) (base := base) T
  have G_least_form := ok_least_form (P := P) (w := w) (base := base) T
  refine T.F_C_init.ok sc_C_init (fun vs H Q E h => ?_) (fun cdv A0 outer s H vs Q E hr h => ?_)
  · obtain ⟨x, dx, l, xs, p, g, rfl, hx, hS, R, k⟩ := h
    rfl
  · obtain ⟨x, dx, l, xs, p, g, rfl, hx, hS, R, k⟩ := h
    refine ⟨_, (pss_cons (ps_set (i := 4) sc_C_init.nd rfl (by first | exact Or.inl rfl | exact Or.inr rfl) (pe_call G_find_problem (hr.mono (by decide)) rfl T.m_find_problem T.k_find_problem T.b_find_problem .nil pass0 (pa_cons (pv 1) (pa_cons (pv 2) (pa_cons (pv 3) pa_nil)))))
    (pss_cons (ps_if (pt_cmp (pc_notN (pv 4)) rfl) (pss_one ps_never) pss_nil)
    (pss_cons (ps_asg (pe_call G_least_form (hr.mono (by decide)) rfl T.m_least_form T.k_least_form T.b_least_form .nil pass0 (pa_cons (pv 1) (pa_cons (pv 2) (pa_cons (pv 3) pa_nil)))) (pg_tup rfl (pgs_cons (pg_name (i := 5) sc_C_init.nd rfl (by first | exact Or.inl rfl | exact Or.inr rfl)) (pgs_cons (pg_name (i := 6) sc_C_init.nd rfl (by first | exact Or.inl rfl | exact Or.inr rfl)) (pgs_cons (pg_name (i := 7) sc_C_init.nd rfl (by first | exact Or.inl rfl | exact Or.inr rfl)) pgs_nil)))))
    (pss_cons (ps_fld (pv 0) (pv 5) rfl)
    (pss_cons (ps_fld (pv 0) (pv 6) rfl)
    (pss_cons (ps_fld (pv 0) (pv 7) rfl)
    (pss_cons (ps_fld (pv 0) pe_bl rfl)
    (pss_one (ps_fld (pv 0) pe_non rfl))))))))), ?_⟩
    have pp : 0 < p ∧ p ≤ 12 := by rcases R.per with h | h | h | h | h | h <;> omega
    refine ⟨_, rfl, _, rfl, _, rfl, l, xs, p, g, rfl, hS, R, fun H1 s1 => ?_⟩
    refine ⟨_, rfl, _, rfl, iteF ?_⟩
    refine ⟨_, rfl, _, rfl, _, rfl, l, xs, p, g, rfl, s1.seq hS, pp.1, R.pn, by have := R.l2; omega, fun H2 t l' s2 ht0 hl0 ht hl => ?_⟩
    refine ⟨t, _, rfl, SqT.of ht, rfl, _, _, rfl, _, _, rfl, _, _, rfl, rfl, ?_⟩
    have s02 : Same H H2 := s1.trans s2
    have hx2 := s02 _ _ hx
    have nlx : l' ≠ x := fun z => by rw [z, s1 _ _ hx] at hl0; cases hl0
    refine ⟨_, rfl, _, rfl, x, _, dx, _, rfl, hx2, T.cl, T.n_values, (by show 0 < 1000; decide), ?_⟩
    refine ⟨_, rfl, _, rfl, x, _, dx, _, rfl, upd_same, T.cl, T.n_period, (by show 1 < 1000; decide), ?_⟩
    refine ⟨_, rfl, _, rfl, x, _, dx, _, rfl, upd_same, T.cl, T.n_gain, (by rw [put1, put2]; show 2 < 1000; decide), ?_⟩
    refine ⟨_, rfl, x, _, dx, _, rfl, upd_same, T.cl, T.n_was_searched, (by rw [put1, put2, put3]; show 3 < 1000; decide), ?_⟩
    refine ⟨_, rfl, x, _, dx, _, rfl, upd_same, T.cl, T.n_break, (by rw [put1, put2, put3, put4]; show 4 < 1000; decide), ?_⟩
    refine k _ dx l' (fun b o hb e => ?_) (s1.free hl0) ?_ ?_
    · rw [upd_ne hb, upd_ne hb, upd_ne hb, upd_ne hb, upd_ne hb]; exact s02 _ _ e
    · rw [upd_same, put1, put2, put3, put4, put5]; rfl
    · rw [upd_ne nlx, upd_ne nlx, upd_ne nlx, upd_ne nlx, upd_ne nlx]; exact hl
theorem ok_C_at (T : Txt K mg A) : FnOk P w K mg base CX0 3 A.f_C_at A.d_C_at ["self", "length"] (sp_C_at K A) := by
  have G_is_count := ok_is_count (P := P) (w := w) (base := base) T
  have G_value_at := ok_value_at (P := P) (w := w) (base := base) T
  refine T.F_C_at.ok sc_C_at (fun vs H Q E h => ?_) (fun cdv A0 outer s H vs Q E hr h => ?_)
  · obtain ⟨x, xs, p, g, t, rfl, ⟨dx, l, w, b, hx, hl⟩, hp, hpn, hn, ht, htb, q⟩ := h
    rfl
  · obtain ⟨x, xs, p, g, t, rfl, ⟨dx, l, w, b, hx, hl⟩, hp, hpn, hn, ht, htb, q⟩ := h
    refine ⟨_, (pss_cons (ps_if (pt_not (pt_val (pe_call G_is_count (hr.mono (by decide)) rfl T.m_is_count T.k_is_count T.b_is_count .nil pass0 (pa_cons (pv 1) pa_nil)))) (pss_one ps_never) pss_nil)
    (pss_one (ps_ret (pe_call G_value_at (hr.mono (by decide)) rfl T.m_value_at T.k_value_at T.b_value_at .nil pass0 (pa_cons (pe_fld (pv 0) rfl) (pa_cons (pe_fld (pv 0) rfl) (pa_cons (pe_fld (pv 0) rfl) (pa_cons (pv 1) pa_nil)))))))), ?_⟩
    refine ⟨_, rfl, _, _, rfl, Kd.int _, ?_⟩
    have e1 : cnt (.int t) = true := by unfold cnt; exact decide_eq_true ht
    rw [e1]
    refine ⟨_, rfl, iteF ?_⟩
    refine ⟨_, rfl, x, _, dx, _, _, rfl, hx, T.cl, T.n_values, cfs_v _ _ _ _ _, _, rfl, x, _, dx, _, _, rfl, hx, T.cl, T.n_period, cfs_p _ _ _ _ _, _, rfl, x, _, dx, _, _, rfl, hx, T.cl, T.n_gain, cfs_g _ _ _ _ _, _, rfl, l, xs, p, g, t, rfl, SqL.of hl, hp, hpn, hn, ht, htb, q⟩
end
end VK


namespace VK
open PySem PySem.Spec PyProof.Rows L2 VM
theorem nth_map {xs : List Int} {i : Nat} {x : V} (h : (xs.map V.int)[i]? = some x) : i < xs.length ∧ x = .int (xs.getD i 0) := by
  have hi : i < xs.length := by
    have := (List.getElem?_eq_some_iff.mp h).1
    rw [List.length_map] at this
    exact this
  rw [getD_map hi] at h
  exact ⟨hi, (Option.some.inj h).symm⟩
/-- counts -/
def Cnts (us : List Int) : Prop := ∀ i, i < us.length → 0 ≤ us.getD i 0
/-- a record, or where it is none -/
def RecAt (K : PySem.W.Frag) (H : Hp) (v : V) : Option Nat → Prop
  | none => ∃ l us, v = .ref l ∧ SqL K H l (us.map V.int) ∧ us.length ≤ 900 ∧ Cnts us
  | some i => (i = 0 ∧ ∃ n, Kd K H v n ∧ n ≠ "list") ∨
      ∃ l xs y n, v = .ref l ∧ SqL K H l xs ∧ (∀ j x, j < i → xs[j]? = some x → ∃ u : Int, x = .int u ∧ 0 ≤ u) ∧ xs[i]? = some y ∧ KdS K H y n ∧ cnt y = false
theorem kitL {K : PySem.W.Frag} {n : String} (h : n ∈ kinds) : PySem.W.kitOne K (.type n) (.type "list") = some (n == "list") := by
  simp only [kinds, List.mem_cons, List.not_mem_nil, or_false] at h
  rcases h with rfl | rfl | rfl | rfl | rfl | rfl | rfl <;> exact kit_ty (by decide +kernel)
/-- what is raised of a record that is none -/
def BadR (A : Ad) (H : Hp) (E : XK) : Option Nat → Prop
  | none => True
  | some i => BadV A.InvalidRecord "position" (.int i) H E
theorem BadR.same {A : Ad} {H H1 : Hp} {E : XK} {o : Option Nat} (b : BadR A H E o) (s : Same H H1) : BadR A H1 E o := by
  cases o with
  | none => trivial
  | some i => exact BadV.same b s
def sp_require_record (K : PySem.W.Frag) (A : Ad) : Sp := fun vs H Q E => ∃ (v : V) (o : Option Nat), vs = [v] ∧ RecAt K H v o ∧ (o = none → ∀ H', Same H H' → Q .non H') ∧ BadR A H E o
def sp_sums_before (K : PySem.W.Frag) (_ : Ad) : Sp := fun vs H Q _ => ∃ (l : Addr) (us : List Int), vs = [.ref l] ∧ SqL K H l (us.map V.int) ∧ us.length ≤ 1000 ∧
  ∀ H' p, Same H H' → H p = none → H' p = some (.lst ((row (pre us) (us.length + 1)).map V.int)) → Q (.ref p) H'
def sp_window_sums (K : PySem.W.Frag) (_ : Ad) : Sp := fun vs H Q _ => ∃ (l : Addr) (us : List Int) (k : Nat), vs = [.ref l, .int k] ∧ SqL K H l ((row (pre us) (us.length + 1)).map V.int) ∧ us.length ≤ 1000 ∧ k ≤ us.length ∧
  ∀ H' p, Same H H' → H p = none → H' p = some (.lst ((row (fun s => win us s k) (us.length + 1 - k)).map V.int)) → Q (.ref p) H'
section
variable {P : Program} {w : World} {K : PySem.W.Frag} {mg : Str → Option Value} {base : Heap} {A : Ad}
theorem ok_require_record (T : Txt K mg A) : FnOk P w K mg base (L2.CX P w) 3 A.f_require_record A.d_require_record ["record"] (sp_require_record K A) := by
  have G_InvalidRecord_init := ok_InvalidRecord_init (P := P) (w := w) (base := base) T
  have G_is_count := ok_is_count (P := P) (w := w) (base := base) T
  refine T.F_require_record.okX sc_require_record (fun vs H Q E h => ?_) (fun cdv A0 outer s H vs Q E hr h => ?_)
  · obtain ⟨v, o, rfl, hR, k, b⟩ := h
    rfl
  · obtain ⟨v, o, rfl, hR, k, b⟩ := h
    refine ⟨_, (pss_cons (ps_if (pt_not (pt_val (pe_callB (r := rIsi K) call_isi (by rfl) T.isinstance (by decide +kernel) (pa_cons (pv 0) (pa_cons (pe_bltn (v := .ty "list") (u := .type "list") (by rfl) T.list (by decide +kernel) (by exact rfl)) pa_nil))))) (pss_one (ps_raise rfl (takes_of rfl rfl rfl rfl) (VX.pmk_new T.O_InvalidRecord T.iC_InvalidRecord T.tI_InvalidRecord G_InvalidRecord_init (hr.mono (by decide)) T.b_InvalidRecord_init pass0 rfl T.m_InvalidRecord (pa_cons pe_int pa_nil)))) pss_nil)
    (pss_one (ps_for (passes_of rfl) rfl (pi_enum (by rfl) T.enumerate (pa_cons (pv 0) pa_nil)) (pg_tup rfl (pgs_cons (pg_name (i := 1) sc_require_record.nd rfl (by first | exact Or.inl rfl | exact Or.inr rfl)) (pgs_cons (pg_name (i := 2) sc_require_record.nd rfl (by first | exact Or.inl rfl | exact Or.inr rfl)) pgs_nil)))
      (pss_one (ps_if (pt_not (pt_val (pe_call G_is_count (hr.mono (by decide)) rfl T.m_is_count T.k_is_count T.b_is_count .nil pass0 (pa_cons (pv 2) pa_nil)))) (pss_one (ps_raise rfl (takes_of rfl rfl rfl rfl) (VX.pmk_new T.O_InvalidRecord T.iC_InvalidRecord T.tI_InvalidRecord G_InvalidRecord_init (hr.mono (by decide)) T.b_InvalidRecord_init pass0 rfl T.m_InvalidRecord (pa_cons (pv 1) pa_nil)))) pss_nil))))), ?_⟩
    cases o with
    | none =>
      obtain ⟨l, us, rfl, hS, _, hc⟩ := hR
      refine ⟨_, rfl, .ref l, .ty "list", _, _, _, rfl, .ty _, (Kd.list hS).1, (show PySem.W.kitOne K (.type "list") (.type "list") = some true from kit_ty (by decide +kernel)), _, rfl, iteF ?_⟩
      refine ⟨_, rfl, l, _, rfl, hS, for_it (walk_enum (K := K) (a := l) (xs := us.map V.int)) (fun i σ H' => ∃ v1 v2, σ = [some (.ref l), v1, v2] ∧ Same H H')
        ⟨_, _, rfl, Same.refl H⟩ (fun i σ H' _ ⟨_, _, _, s0⟩ => s0.seq hS) ?_ ?_⟩
      · rintro i x σ H' H2 hi ⟨v1, v2, rfl, s0⟩ ⟨t, a, b, rfl, ht, rfl, ea, eb⟩
        obtain ⟨hi', rfl⟩ := nth_map eb
        cases ea
        refine ⟨t, _, rfl, SqT.of upd_same, rfl, _, _, rfl, _, _, rfl, rfl, ?_⟩
        have e1 : cnt (.int (us.getD i 0)) = true := by unfold cnt; exact decide_eq_true (hc i hi')
        refine ⟨_, rfl, _, _, rfl, Kd.int _, ?_⟩
        rw [e1]
        exact ⟨_, rfl, iteF ⟨_, _, rfl, Same.upd s0 (s0.free ht)⟩⟩
      · rintro σ H' ⟨v1, v2, rfl, s0⟩
        exact k rfl H' s0
    | some i0 =>
      have b : BadV A.InvalidRecord "position" (.int i0) H E := b
      rcases hR with ⟨rfl, n, hk, hn⟩ | ⟨l, xs, y, n, rfl, hS, low, hy, hk, hc⟩
      · have e1 : (n == "list") = false := by simpa using hn
        refine ⟨_, rfl, v, .ty "list", _, _, _, rfl, .ty _, hk.1, kitL hk.2, _, rfl, ?_⟩
        rw [e1]
        exact iteT ⟨(by show 1 ≤ 1000; decide), raise1 b⟩
      · refine ⟨_, rfl, .ref l, .ty "list", _, _, _, rfl, .ty _, (Kd.list hS).1, (show PySem.W.kitOne K (.type "list") (.type "list") = some true from kit_ty (by decide +kernel)), _, rfl, iteF ?_⟩
        refine ⟨_, rfl, l, _, rfl, hS, for_it (walk_enum (K := K) (a := l) (xs := xs)) (fun i σ H' => ∃ v1 v2, σ = [some (.ref l), v1, v2] ∧ Same H H' ∧ i ≤ i0)
          ⟨_, _, rfl, Same.refl H, Nat.zero_le _⟩ (fun i σ H' _ ⟨_, _, _, s0, _⟩ => s0.seq hS) ?_ ?_⟩
        · rintro i x σ H' H2 hi ⟨v1, v2, rfl, s0, le⟩ ⟨t, a, c, rfl, ht, rfl, ea, eb⟩
          cases ea
          have eb : xs[i]? = some c := eb
          have s2 : Same H (upd H' t (.tup [.int (i : Nat), c])) := Same.upd s0 (s0.free ht)
          refine ⟨t, _, rfl, SqT.of upd_same, rfl, _, _, rfl, _, _, rfl, rfl, ?_⟩
          by_cases z : i = i0
          · subst z
            rw [hy] at eb
            cases eb
            refine ⟨_, rfl, y, n, rfl, hk _ s2, ?_⟩
            rw [hc]
            exact ⟨_, rfl, iteT ⟨_, rfl, (by show 1 ≤ 1000; decide), raise1 (b.same s2)⟩⟩
          · obtain ⟨u, rfl, hu⟩ := low i c (by omega) eb
            have e1 : cnt (.int u) = true := by unfold cnt; exact decide_eq_true hu
            refine ⟨_, rfl, _, _, rfl, Kd.int _, ?_⟩
            rw [e1]
            exact ⟨_, rfl, iteF ⟨_, _, rfl, s2, by omega⟩⟩
        · rintro σ H' ⟨v1, v2, rfl, s0, le⟩
          exfalso
          have := (List.getElem?_eq_some_iff.mp hy).1
          omega
theorem ok_sums_before (T : Txt K mg A) : FnOk P w K mg base CX0 1 A.f_sums_before A.d_sums_before ["record"] (sp_sums_before K A) := by
  refine T.F_sums_before.ok sc_sums_before (fun vs H Q E h => ?_) (fun cdv A0 outer s H vs Q E hr h => ?_)
  · obtain ⟨l, us, rfl, hS, hn, k⟩ := h
    rfl
  · obtain ⟨l, us, rfl, hS, hn, k⟩ := h
    refine ⟨_, (pss_cons (ps_set (i := 1) sc_sums_before.nd rfl (by first | exact Or.inl rfl | exact Or.inr rfl) (pe_lst (pa_cons pe_int pa_nil)))
    (pss_cons (ps_for PassesOwn.never rfl (pi_list (pv 0)) (pg_name (i := 2) sc_sums_before.nd rfl (by first | exact Or.inl rfl | exact Or.inr rfl))
      (pss_one (ps_expr (pe_bm PySem.F.plainAttrs_list PySem.F.slot_list_append PySem.F.type_list_append mt_append (pv 1) (pa_cons (pe_op op_add (pe_ix (r := rIxL K) ix_list (pv 1) (pe_un un_neg pe_int) (fun _ _ => rfl)) (pv 2)) pa_nil)))))
    (pss_one (ps_ret (pv 1))))), ?_⟩
    refine ⟨(by show 1 ≤ sizeLine; decide), fun p hp => ?_⟩
    refine ⟨_, rfl, l, rfl, ⟨_, (Same.upd (Same.refl H) hp).seq hS⟩, for_list (K := K) (a := l) (xs := us.map V.int) (fun i σ H' => ∃ v2, σ = [some (.ref l), some (.ref p), v2] ∧ Same H H' ∧ H' p = some (.lst ((row (pre us) (i + 1)).map V.int)))
      ⟨_, rfl, Same.upd (Same.refl H) hp, upd_same⟩ (fun i σ H' _ ⟨_, _, s0, _⟩ => s0.seq hS) ?_ ?_⟩
    · rintro i x σ H' hx ⟨v2, rfl, s0, hP⟩
      obtain ⟨hi, rfl⟩ := nth_map hx
      refine ⟨_, rfl, .inl ⟨rfl, _, SqL.of hP⟩, _, rfl, _, rfl, p, _, _, _, rfl, rfl, SqL.of hP, at_back (by omega) (by rw [row_length]; omega), _, rfl, _, _, rfl, rfl, p, _, _, rfl, rfl, hP, small (by rw [List.length_map, row_length]; omega), ?_⟩
      refine ⟨_, rfl, Same.upd s0 hp, ?_⟩
      rw [upd_same, rowI_succ (m := i + 1), row_length, row_getD (by omega)]
      congr 5
      rw [show ((-1 + ((i + 1 : Nat) : Int)).toNat : Int) = (i : Int) by omega, show (((i + 1 : Nat)) : Int) = (i : Int) + 1 by omega, pre_step hi]
    · rintro σ H' ⟨v2, rfl, s0, hP⟩
      rw [List.length_map] at hP
      exact ⟨_, rfl, k H' p s0 hp hP⟩
theorem ok_window_sums (T : Txt K mg A) : FnOk P w K mg base CX0 1 A.f_window_sums A.d_window_sums ["sums", "length"] (sp_window_sums K A) := by
  refine T.F_window_sums.ok sc_window_sums (fun vs H Q E h => ?_) (fun cdv A0 outer s H vs Q E hr h => ?_)
  · obtain ⟨l, us, k, rfl, hS, hn, hk, q⟩ := h
    rfl
  · obtain ⟨l, us, k, rfl, hS, hn, hk, q⟩ := h
    refine ⟨_, (pss_one (ps_ret (pe_lc (own := [("start", 2)]) (g := gName 2) (tt := tYes) rfl sc_window_sums.nd (pi_range1 rfl T.range (pa_cons (pe_op op_sub (pe_callB (r := VG.rLen K) VG.call_len (by rfl) T.len (by decide +kernel) (pa_cons (pv 0) pa_nil)) (pv 1)) pa_nil)) (blkOk_by (own := [("start", 2)]) (N := ["sums", "length", "start"]) (sc := defScope s_window_sums) (by decide +kernel)) (fun _ _ _ _ _ => pg_name (i := 2) sc_window_sums.nd rfl (by first | exact Or.inl rfl | exact Or.inr rfl)) (fun _ _ _ _ _ => pts_nil) (fun _ _ _ _ _ => (pe_op op_sub (pe_ix (r := rIxL K) ix_list (pv 0) (pe_op op_add (pv 2) (pv 1)) (fun _ _ => rfl)) (pe_ix (r := rIxL K) ix_list (pv 0) (pv 2) (fun _ _ => rfl))))))), ?_⟩
    refine ⟨_, rfl, l, _, rfl, .inl hS, _, rfl, _, _, rfl, rfl, ?_⟩
    rw [List.length_map, row_length]
    refine ⟨_, rfl, by omega, by omega, fun D hD => lc_range (lo := 0) (n := (((us.length + 1 : Nat) : Int) - k).toNat)
      (fun j H2 => H2 D = some (.lst ((row (fun s => win us s k) j).map V.int)) ∧ Same H H2) ?_ ?_ ?_⟩
    · exact ⟨upd_same, Same.upd (Same.refl H) hD⟩
    · rintro j H2 hj ⟨hD2, s2⟩
      refine ⟨rfl, _, rfl, _, rfl, _, rfl, _, _, rfl, rfl, l, _, _, _, rfl, rfl, s2.seq hS, at_row (by omega) (by omega), _, rfl, _, rfl, l, _, _, _, rfl, rfl, s2.seq hS, at_row (by omega) (by omega), _, _, rfl, rfl,
        _, hD2, small (by rw [List.length_map, row_length]; omega), ?_, Same.upd s2 hD⟩
      rw [upd_same, rowI_succ, Int.zero_add]
      rfl
    · rintro H2 ⟨hD2, s2⟩
      rw [show (((us.length + 1 : Nat) : Int) - k).toNat = us.length + 1 - k by omega] at hD2
      exact q H2 D s2 hD hD2
end
end VK


namespace VK
open PySem PySem.Spec PyProof.Rows L2 VM
def GoodC (f : Int → Int) (n : Nat) : Prop := ∀ a b : Int, 1 ≤ b → b ≤ a → a ≤ n → f (a + b) ≤ f a + f b
/-- (a, b) is the first break of f, both at most n -/
structure Brk1 (f : Int → Int) (n a b : Int) : Prop where
  a1 : 1 ≤ a
  ab : a ≤ b
  bn : b ≤ n
  now : f a + f b < f (a + b)
  before : ∀ x y : Int, 1 ≤ x → x ≤ y → y ≤ n → (x + y < a + b ∨ (x + y = a + b ∧ x < a)) → f (x + y) ≤ f x + f y
/-- what is found among the lengths up to n -/
def BrkR (f : Int → Int) (n : Nat) : Option (Int × Int) → Prop
  | none => GoodC f n
  | some (a, b) => Brk1 f n a b
/-- how it is told -/
def Val (H : Hp) (v : V) : Option (Int × Int) → Prop
  | none => v = .non
  | some (a, b) => ∃ t, v = .ref t ∧ H t = some (.tup [.int a, .int b])
theorem Val.same {H H' : Hp} {v : V} {o : Option (Int × Int)} (h : Val H v o) (s : Same H H') : Val H' v o := by
  cases o with
  | none => exact h
  | some ab =>
    obtain ⟨a, b⟩ := ab
    obtain ⟨t, e, ht⟩ := h
    exact ⟨t, e, s _ _ ht⟩
/-- all but x stands -/
def But (x : Addr) (H H' : Hp) : Prop := ∀ c o, c ≠ x → H c = some o → H' c = some o
theorem But.of {x : Addr} {H H' : Hp} (s : Same H H') : But x H H' := fun c o _ e => s c o e
theorem But.trans {x : Addr} {H H1 H2 : Hp} (a : But x H H1) (b : But x H1 H2) : But x H H2 := fun c o n e => b c o n (a c o n e)
/-- a curve whose break is o, looked for or not -/
def Cu (A : Ad) (H : Hp) (x : Addr) (cs : List Int) (p g : Int) (o : Option (Int × Int)) : Prop := ∃ dx l w b, H x = some (.ins A.Curve dx (cfs l p g w b)) ∧ H l = some (.lst (cs.map V.int)) ∧ (w = true → Val H b o)
/-- .. its list at l -/
def CuL (A : Ad) (H : Hp) (x l : Addr) (cs : List Int) (p g : Int) (o : Option (Int × Int)) : Prop := ∃ dx w b, H x = some (.ins A.Curve dx (cfs l p g w b)) ∧ H l = some (.lst (cs.map V.int)) ∧ (w = true → Val H b o)
theorem CuL.cu {A : Ad} {H : Hp} {x l : Addr} {cs : List Int} {p g : Int} {o : Option (Int × Int)} (h : CuL A H x l cs p g o) : Cu A H x cs p g o := by
  obtain ⟨dx, w, b, h1, h2, h3⟩ := h
  exact ⟨dx, l, w, b, h1, h2, h3⟩
theorem CuL.same {A : Ad} {H H' : Hp} {x l : Addr} {cs : List Int} {p g : Int} {o : Option (Int × Int)} (h : CuL A H x l cs p g o) (s : Same H H') : CuL A H' x l cs p g o := by
  obtain ⟨dx, w, b, h1, h2, h3⟩ := h
  exact ⟨dx, w, b, s _ _ h1, s _ _ h2, fun z => (h3 z).same s⟩
theorem Cu.same {A : Ad} {H H' : Hp} {x : Addr} {cs : List Int} {p g : Int} {o : Option (Int × Int)} (h : Cu A H x cs p g o) (s : Same H H') : Cu A H' x cs p g o := by
  obtain ⟨dx, l, w, b, h1, h2, h3⟩ := h
  exact ⟨dx, l, w, b, s _ _ h1, s _ _ h2, fun z => (h3 z).same s⟩
theorem Cu.crv {A : Ad} {H : Hp} {x : Addr} {cs : List Int} {p g : Int} {o : Option (Int × Int)} (h : Cu A H x cs p g o) : CrvAt A H x cs p g := by
  obtain ⟨dx, l, w, b, h1, h2, h3⟩ := h
  exact ⟨dx, l, w, b, h1, h2⟩
theorem Val.but {A : Ad} {H H' : Hp} {x : Addr} {cs : List Int} {p g : Int} {v : V} {o : Option (Int × Int)} (h : Val H v o) (c : CrvAt A H x cs p g) (s : But x H H') : Val H' v o := by
  cases o with
  | none => exact h
  | some ab =>
    obtain ⟨a, b⟩ := ab
    obtain ⟨t, e, ht⟩ := h
    obtain ⟨dx, l, w, b, h1, h2⟩ := c
    exact ⟨t, e, s _ _ (ne_of ht h1 (fun z => by cases z)) ht⟩
def sp_C_first_values (K : PySem.W.Frag) (A : Ad) : Sp := fun vs H Q _ => ∃ (x : Addr) (cs : List Int) (p g : Int), vs = [.ref x] ∧ CrvAt A H x cs p g ∧ ∀ H' q, Same H H' → H q = none → H' q = some (.lst (cs.map V.int)) → Q (.ref q) H'
def sp_first_break (K : PySem.W.Frag) (A : Ad) : Sp := fun vs H Q _ => ∃ (x : Addr) (cs : List Int) (p g : Int) (o : Option (Int × Int)), vs = [.ref x] ∧ CrvAt A H x cs p g ∧ 0 < p ∧ p ≤ cs.length ∧ cs.length ≤ 1000 ∧ BrkR (cvAt cs p g) cs.length o ∧
  ∀ H' v, Same H H' → (∀ t, v = .ref t → H t = none) → Val H' v o → Q v H'
def sp_C_find_break (K : PySem.W.Frag) (A : Ad) : Sp := fun vs H Q _ => ∃ (x l : Addr) (cs : List Int) (p g : Int) (o : Option (Int × Int)), vs = [.ref x] ∧ CuL A H x l cs p g o ∧ 0 < p ∧ p ≤ cs.length ∧ cs.length ≤ 1000 ∧ BrkR (cvAt cs p g) cs.length o ∧
  ∀ H' v, But x H H' → CuL A H' x l cs p g o → Val H' v o → Q v H'
def sp_C_is_good (K : PySem.W.Frag) (A : Ad) : Sp := fun vs H Q _ => ∃ (x l : Addr) (cs : List Int) (p g : Int) (o : Option (Int × Int)), vs = [.ref x] ∧ CuL A H x l cs p g o ∧ 0 < p ∧ p ≤ cs.length ∧ cs.length ≤ 1000 ∧ BrkR (cvAt cs p g) cs.length o ∧
  ∀ H', But x H H' → CuL A H' x l cs p g o → Q (.bl o.isNone) H'
def sp_NotGood_init (_ : PySem.W.Frag) (A : Ad) : Sp := fun vs H Q _ => ∃ (e : Addr) (y z : V), vs = [.ref e, y, z] ∧ H e = some (exo e A.NotGood none) ∧
  ∀ d, H d = none → d ≠ e → Q .non (upd (upd (upd H d (exd d [("first", y)])) e (exo e A.NotGood (some d))) d (exd d [("second", z), ("first", y)]))
/-- what a function that refuses a curve with a break does -/
def Refu (A : Ad) (x l : Addr) (cs : List Int) (p g : Int) (H : Hp) (E : XK) : Option (Int × Int) → Prop
  | none => True
  | some (a, b) => ∀ H' d, But x H H' → CuL A H' x l cs p g (some (a, b)) → H' d = some (.xd [("second", .int b), ("first", .int a)]) → E (.ref A.NotGood) (some d) H'
def sp_require_good (K : PySem.W.Frag) (A : Ad) : Sp := fun vs H Q E => ∃ (x l : Addr) (cs : List Int) (p g : Int) (o : Option (Int × Int)), vs = [.ref x] ∧ CuL A H x l cs p g o ∧ 0 < p ∧ p ≤ cs.length ∧ cs.length ≤ 1000 ∧ BrkR (cvAt cs p g) cs.length o ∧
  (o = none → ∀ H', But x H H' → CuL A H' x l cs p g o → Q .non H') ∧ Refu A x l cs p g H E o
def sp_C_period (_ : PySem.W.Frag) (A : Ad) : Sp := fun vs H Q _ => ∃ (x : Addr) (cs : List Int) (p g : Int), vs = [.ref x] ∧ CrvAt A H x cs p g ∧ Q (.int p) H
def sp_C_gain (_ : PySem.W.Frag) (A : Ad) : Sp := fun vs H Q _ => ∃ (x : Addr) (cs : List Int) (p g : Int), vs = [.ref x] ∧ CrvAt A H x cs p g ∧ Q (.int g) H
theorem cu_after {A : Ad} {H H1 : Hp} {x dx l : Addr} {cs : List Int} {p g : Int} {b v : V} {o : Option (Int × Int)} (hx : H x = some (.ins A.Curve dx (cfs l p g false b))) (hl : H l = some (.lst (cs.map V.int)))
    (s1 : Same H H1) (fr : ∀ t, v = .ref t → H t = none) (hv : Val H1 v o) :
    But x H (upd H1 x (.ins A.Curve dx (cfs l p g true v))) ∧ CuL A (upd H1 x (.ins A.Curve dx (cfs l p g true v))) x l cs p g o ∧ Val (upd H1 x (.ins A.Curve dx (cfs l p g true v))) v o := by
  have nlx : l ≠ x := ne_of hl hx (fun z => by cases z)
  have hv2 : Val (upd H1 x (.ins A.Curve dx (cfs l p g true v))) v o := by
    cases o with
    | none => exact hv
    | some ab =>
      obtain ⟨a, b⟩ := ab
      obtain ⟨t, e, ht⟩ := hv
      exact ⟨t, e, by rw [upd_ne (Ne.symm (ne_of_none hx (fr t e)))]; exact ht⟩
  refine ⟨fun c o n e => by rw [upd_ne n]; exact s1 _ _ e, ⟨dx, true, v, upd_same, by rw [upd_ne nlx]; exact s1 _ _ hl, fun _ => hv2⟩, hv2⟩
theorem val_isNone {H : Hp} {v : V} {o : Option (Int × Int)} (h : Val H v o) : o.isNone = (match v with | .non => true | _ => false) := by
  cases o with
  | none => cases h; rfl
  | some ab =>
    obtain ⟨a, b⟩ := ab
    obtain ⟨t, rfl, _⟩ := h
    rfl
section
variable {P : Program} {w : World} {K : PySem.W.Frag} {mg : Str → Option Value} {base : Heap} {A : Ad}
theorem ok_C_first_values (T : Txt K mg A) : FnOk P w K mg base CX0 1 A.f_C_first_values A.d_C_first_values ["self"] (sp_C_first_values K A) := by
  refine T.F_C_first_values.ok sc_C_first_values (fun vs H Q E h => ?_) (fun cdv A0 outer s H vs Q E hr h => ?_)
  · obtain ⟨x, cs, p, g, rfl, ⟨dx, l, w, b, hx, hl⟩, k⟩ := h
    rfl
  · obtain ⟨x, cs, p, g, rfl, ⟨dx, l, w, b, hx, hl⟩, k⟩ := h
    refine ⟨_, (pss_one (ps_ret (pe_callTy (r := VG.rListOf K) VG.call_listOf (by rfl) T.list (by decide +kernel) (pa_cons (pe_fld (pv 0) rfl) pa_nil)))), ?_⟩
    exact ⟨_, rfl, x, _, dx, _, _, rfl, hx, T.cl, T.n_values, cfs_v _ _ _ _ _, l, _, rfl, .inl (SqL.of hl), fun q hq => k _ q (Same.upd (Same.refl _) hq) hq upd_same⟩
theorem ok_first_break (T : Txt K mg A) : FnOk P w K mg base CX0 4 A.f_first_break A.d_first_break ["curve"] (sp_first_break K A) := by
  have G_C_at := ok_C_at (P := P) (w := w) (base := base) T
  have G_C_first_values := ok_C_first_values (P := P) (w := w) (base := base) T
  refine T.F_first_break.ok sc_first_break (fun vs H Q E h => ?_) (fun cdv A0 outer s H vs Q E hr h => ?_)
  · obtain ⟨x, cs, p, g, o, rfl, hC, hp, hpn, hn, hB, k⟩ := h
    rfl
  · obtain ⟨x, cs, p, g, o, rfl, hC, hp, hpn, hn, hB, k⟩ := h
    refine ⟨_, (pss_cons (ps_set (i := 1) sc_first_break.nd rfl (by first | exact Or.inl rfl | exact Or.inr rfl) (pe_callB (r := VG.rLen K) VG.call_len (by rfl) T.len (by decide +kernel) (pa_cons (pe_meth0 (pv 0) T.cl T.me_first_values G_C_first_values (hr.mono (by decide)) T.b_C_first_values .nil pass0) pa_nil)))
    (pss_cons (ps_setLc (i := 2) (own := [("length", 5)]) (g := gName 5) (tt := tYes) rfl sc_first_break.nd rfl rfl (sw_true rfl rfl rfl (by decide +kernel)) (pi_range1 rfl T.range (pa_cons (pe_op op_add (pe_op op_mul pe_int (pv 1)) pe_int) pa_nil)) (blkOk_by (own := [("length", 5)]) (N := ["curve", "many", "row", "total", "first", "length"]) (sc := defScope s_first_break) (by decide +kernel)) (fun _ _ _ _ _ => pg_name (i := 5) sc_first_break.nd rfl (by first | exact Or.inl rfl | exact Or.inr rfl)) (fun _ _ _ _ _ => pts_nil) (fun _ _ _ _ _ => (pe_meth (pv 0) T.cl T.me_at G_C_at (hr.mono (by decide)) T.b_C_at .nil pass0 (pa_cons (pv 5) pa_nil))))
    (pss_cons (ps_for PassesOwn.never rfl (pi_range2 rfl T.range (pa_cons pe_int (pa_cons (pe_op op_add (pe_op op_mul pe_int (pv 1)) pe_int) pa_nil))) (pg_name (i := 3) sc_first_break.nd rfl (by first | exact Or.inl rfl | exact Or.inr rfl))
      (pss_one (ps_for PassesOwn.never rfl (pi_range2 rfl T.range (pa_cons (pe_callB (call_max2 rfl) (by rfl) T.max (by decide +kernel) (pa_cons pe_int (pa_cons (pe_op op_sub (pv 3) (pv 1)) pa_nil))) (pa_cons (pe_op op_add (pe_op op_fdiv (pv 3) pe_int) pe_int) pa_nil))) (pg_name (i := 4) sc_first_break.nd rfl (by first | exact Or.inl rfl | exact Or.inr rfl))
      (pss_one (ps_if (pt_cmpR op_gt (pe_ix (r := rIxL K) ix_list (pv 2) (pv 3) (fun _ _ => rfl)) (pe_op op_add (pe_ix (r := rIxL K) ix_list (pv 2) (pv 4) (fun _ _ => rfl)) (pe_ix (r := rIxL K) ix_list (pv 2) (pe_op op_sub (pv 3) (pv 4)) (fun _ _ => rfl))) (nomark _)) (pss_one (ps_ret (pe_tup (pa_cons (pv 4) (pa_cons (pe_op op_sub (pv 3) (pv 4)) pa_nil))))) pss_nil)))))
    (pss_one (ps_ret pe_non))))), ?_⟩
    obtain ⟨dx, l, w, b, hx, hl⟩ := id hC
    cases o with
    | none =>
      have hg : GoodC (cvAt cs p g) cs.length := hB
      refine ⟨_, rfl, x, dx, _, rfl, hx, cfs_no _ _ _ (by decide +kernel) (by decide +kernel) (by decide +kernel), x, cs, p, g, rfl, hC, fun H0 q0 s0 _ hq0 => ⟨q0, _, rfl, .inl (SqL.of hq0), ?_⟩⟩
      rw [List.length_map]
      refine ⟨_, rfl, _, _, rfl, rfl, .inl ⟨by decide, by decide⟩, _, _, rfl, rfl, _, rfl, by omega, by omega, fun D hD => lc_range (lo := 0) (n := (2 * (cs.length : Int) + 1).toNat)
        (fun j H2 => H2 D = some (.lst ((row (cvAt cs p g) j).map V.int)) ∧ Same H H2) ⟨upd_same, Same.upd s0 (s0.free hD)⟩ ?_ ?_⟩
      · rintro j H2 hj ⟨hD2, s2⟩
        refine ⟨rfl, _, rfl, x, dx, _, rfl, s2 _ _ hx, cfs_no _ _ _ (by decide +kernel) (by decide +kernel) (by decide +kernel), _, rfl, x, cs, p, g, _, rfl, hC.same s2, hp, hpn, hn, by omega, by omega, _, hD2, small (by rw [List.length_map, row_length]; omega), ?_, Same.upd s2 (s0.free hD)⟩
        rw [upd_same, rowI_succ, Int.zero_add]
      · rintro H2 ⟨hD2, s2⟩
        refine ⟨_, rfl, _, _, rfl, rfl, .inl ⟨by decide, by decide⟩, _, _, rfl, rfl, _, _, rfl, ⟨by omega, by omega, by omega, by omega⟩, ?_⟩
        refine for_range (lo := 2) (n := (2 * (cs.length : Int) + 1 - 2).toNat) (fun i σ H' => ∃ v3 v4, σ = [some (.ref x), some (.int (cs.length : Nat)), some (.ref D), v3, v4, none] ∧ H2 = H')
          ⟨_, _, rfl, rfl⟩ ?_ ?_
        · rintro i σ H' hi ⟨v3, v4, rfl, rfl⟩
          refine ⟨_, rfl, _, rfl, _, _, rfl, rfl, _, _, rfl, ?_⟩
          have hlo : 1 ≤ (if (2 + (i : Int)) - (cs.length : Int) > 1 then (2 + (i : Int)) - (cs.length : Int) else 1) ∧ (2 + (i : Int)) - (cs.length : Int) ≤ (if (2 + (i : Int)) - (cs.length : Int) > 1 then (2 + (i : Int)) - (cs.length : Int) else 1) ∧ (if (2 + (i : Int)) - (cs.length : Int) > 1 then (2 + (i : Int)) - (cs.length : Int) else 1) ≤ 5000 := by
            split <;> omega
          generalize (if (2 + (i : Int)) - (cs.length : Int) > 1 then (2 + (i : Int)) - (cs.length : Int) else 1) = lo at *
          refine ⟨_, rfl, _, _, rfl, rfl, ⟨by decide, by decide⟩, _, _, rfl, rfl, _, _, rfl, ⟨by omega, by omega, by omega, by omega⟩, ?_⟩
          refine for_range (lo := lo) (n := ((2 + (i : Int)) / 2 + 1 - lo).toNat) (fun j σ H' => ∃ v4, σ = [some (.ref x), some (.int (cs.length : Nat)), some (.ref D), some (.int (2 + (i : Int))), v4, none] ∧ H2 = H')
            ⟨_, rfl, rfl⟩ ?_ ?_
          · rintro j σ H' hj ⟨v4, rfl, rfl⟩
            refine ⟨_, rfl, _, rfl, D, _, _, _, rfl, rfl, SqL.of hD2, at_row (by omega) (by omega), _, rfl, _, rfl, D, _, _, _, rfl, rfl, SqL.of hD2, at_row (by omega) (by omega), _, rfl, _, rfl, _, rfl, _, _, rfl, rfl, D, _, _, _, rfl, rfl, SqL.of hD2, at_row (by omega) (by omega), _, _, rfl, rfl, _, _, rfl, rfl, _, rfl, ifD (fun c => ?_) (fun c => ?_)⟩
            · exfalso
              have := hg (2 + (i : Int) - (lo + j)) (lo + j) (by omega) (by omega) (by omega)
              rw [show 2 + (i : Int) - (lo + j) + (lo + j) = 2 + (i : Int) by omega] at this
              omega
            · exact ⟨_, rfl, rfl⟩
          · rintro σ H' ⟨v4, rfl, rfl⟩
            exact ⟨_, _, rfl, rfl⟩
        · rintro σ H' ⟨v3, v4, rfl, rfl⟩
          exact k _ .non s2 (fun t z => nomatch z) rfl
    | some ab =>
      obtain ⟨a, b⟩ := ab
      obtain ⟨a1, ab, bn, now, before⟩ : Brk1 (cvAt cs p g) cs.length a b := hB
      refine ⟨_, rfl, x, dx, _, rfl, hx, cfs_no _ _ _ (by decide +kernel) (by decide +kernel) (by decide +kernel), x, cs, p, g, rfl, hC, fun H0 q0 s0 _ hq0 => ⟨q0, _, rfl, .inl (SqL.of hq0), ?_⟩⟩
      rw [List.length_map]
      refine ⟨_, rfl, _, _, rfl, rfl, .inl ⟨by decide, by decide⟩, _, _, rfl, rfl, _, rfl, by omega, by omega, fun D hD => lc_range (lo := 0) (n := (2 * (cs.length : Int) + 1).toNat)
        (fun j H2 => H2 D = some (.lst ((row (cvAt cs p g) j).map V.int)) ∧ Same H H2) ⟨upd_same, Same.upd s0 (s0.free hD)⟩ ?_ ?_⟩
      · rintro j H2 hj ⟨hD2, s2⟩
        refine ⟨rfl, _, rfl, x, dx, _, rfl, s2 _ _ hx, cfs_no _ _ _ (by decide +kernel) (by decide +kernel) (by decide +kernel), _, rfl, x, cs, p, g, _, rfl, hC.same s2, hp, hpn, hn, by omega, by omega, _, hD2, small (by rw [List.length_map, row_length]; omega), ?_, Same.upd s2 (s0.free hD)⟩
        rw [upd_same, rowI_succ, Int.zero_add]
      · rintro H2 ⟨hD2, s2⟩
        refine ⟨_, rfl, _, _, rfl, rfl, .inl ⟨by decide, by decide⟩, _, _, rfl, rfl, _, _, rfl, ⟨by omega, by omega, by omega, by omega⟩, ?_⟩
        refine for_range (lo := 2) (n := (2 * (cs.length : Int) + 1 - 2).toNat) (fun i σ H' => ∃ v3 v4, σ = [some (.ref x), some (.int (cs.length : Nat)), some (.ref D), v3, v4, none] ∧ H2 = H' ∧ 2 + (i : Int) ≤ a + b)
          ⟨_, _, rfl, rfl, by omega⟩ ?_ ?_
        · rintro i σ H' hi ⟨v3, v4, rfl, rfl, hab⟩
          refine ⟨_, rfl, _, rfl, _, _, rfl, rfl, _, _, rfl, ?_⟩
          have hlo : 1 ≤ (if (2 + (i : Int)) - (cs.length : Int) > 1 then (2 + (i : Int)) - (cs.length : Int) else 1) ∧ (2 + (i : Int)) - (cs.length : Int) ≤ (if (2 + (i : Int)) - (cs.length : Int) > 1 then (2 + (i : Int)) - (cs.length : Int) else 1) ∧ (if (2 + (i : Int)) - (cs.length : Int) > 1 then (2 + (i : Int)) - (cs.length : Int) else 1) ≤ 5000 ∧ (2 + (i : Int) = a + b → (if (2 + (i : Int)) - (cs.length : Int) > 1 then (2 + (i : Int)) - (cs.length : Int) else 1) ≤ a) := by
            split <;> omega
          generalize (if (2 + (i : Int)) - (cs.length : Int) > 1 then (2 + (i : Int)) - (cs.length : Int) else 1) = lo at *
          refine ⟨_, rfl, _, _, rfl, rfl, ⟨by decide, by decide⟩, _, _, rfl, rfl, _, _, rfl, ⟨by omega, by omega, by omega, by omega⟩, ?_⟩
          refine for_range (lo := lo) (n := ((2 + (i : Int)) / 2 + 1 - lo).toNat) (fun j σ H' => ∃ v4, σ = [some (.ref x), some (.int (cs.length : Nat)), some (.ref D), some (.int (2 + (i : Int))), v4, none] ∧ H2 = H' ∧ (2 + (i : Int) < a + b ∨ lo + (j : Int) ≤ a))
            ⟨_, rfl, rfl, by omega⟩ ?_ ?_
          · rintro j σ H' hj ⟨v4, rfl, rfl, hja⟩
            have bef := before (lo + j) (2 + (i : Int) - (lo + j)) (by omega) (by omega) (by omega)
            rw [show lo + (j : Int) + (2 + (i : Int) - (lo + j)) = 2 + (i : Int) by omega] at bef
            refine ⟨_, rfl, _, rfl, D, _, _, _, rfl, rfl, SqL.of hD2, at_row (by omega) (by omega), _, rfl, _, rfl, D, _, _, _, rfl, rfl, SqL.of hD2, at_row (by omega) (by omega), _, rfl, _, rfl, _, rfl, _, _, rfl, rfl, D, _, _, _, rfl, rfl, SqL.of hD2, at_row (by omega) (by omega), _, _, rfl, rfl, _, _, rfl, rfl, _, rfl, ifD (fun c => ?_) (fun c => ?_)⟩
            · have e1 : 2 + (i : Int) = a + b := by
                by_cases z : 2 + (i : Int) < a + b
                · have := bef (.inl z); omega
                · omega
              have e2 : lo + (j : Int) = a := by
                by_cases z : lo + (j : Int) < a
                · have := bef (.inr ⟨e1, z⟩); omega
                · omega
              refine ⟨_, rfl, _, rfl, _, rfl, _, _, rfl, rfl, (by show 2 ≤ sizeLine; decide), fun t ht => k _ (.ref t) (Same.upd s2 (s2.free ht)) (fun t' z => by cases z; exact s2.free ht) ⟨t, rfl, ?_⟩⟩
              rw [upd_same, e2]
              show some (HO.tup [V.int a, V.int (2 + (i : Int) - a)]) = _
              rw [show 2 + (i : Int) - a = b by omega]
            · refine ⟨_, rfl, rfl, ?_⟩
              by_cases z : 2 + (i : Int) < a + b
              · exact .inl z
              · by_cases z2 : lo + (j : Int) = a
                · exfalso
                  apply c
                  rw [z2, show 2 + (i : Int) - a = b by omega, show 2 + (i : Int) = a + b by omega]
                  exact now
                · exact .inr (by omega)
          · rintro σ H' ⟨v4, rfl, rfl, hja⟩
            exact ⟨_, _, rfl, rfl, by omega⟩
        · rintro σ H' ⟨v3, v4, rfl, rfl, hab⟩
          exfalso
          omega
theorem ok_C_find_break (T : Txt K mg A) : FnOk P w K mg base CX0 5 A.f_C_find_break A.d_C_find_break ["self"] (sp_C_find_break K A) := by
  have G_first_break := ok_first_break (P := P) (w := w) (base := base) T
  refine T.F_C_find_break.ok sc_C_find_break (fun vs H Q E h => ?_) (fun cdv A0 outer s H vs Q E hr h => ?_)
  · obtain ⟨x, l, cs, p, g, o, rfl, hC, hp, hpn, hn, hB, k⟩ := h
    rfl
  · obtain ⟨x, l, cs, p, g, o, rfl, hC, hp, hpn, hn, hB, k⟩ := h
    refine ⟨_, (pss_cons (ps_if (pt_not (pt_val (pe_fld (pv 0) rfl))) (pss_cons (ps_fld (pv 0) (pe_call G_first_break (hr.mono (by decide)) rfl T.m_first_break T.k_first_break T.b_first_break .nil pass0 (pa_cons (pv 0) pa_nil)) rfl)
    (pss_one (ps_fld (pv 0) pe_bl rfl))) pss_nil)
    (pss_one (ps_ret (pe_fld (pv 0) rfl)))), ?_⟩
    obtain ⟨dx, w, b, hx, hl, hv⟩ := id hC
    refine ⟨_, rfl, x, _, dx, _, _, rfl, hx, T.cl, T.n_was_searched, cfs_w _ _ _ _ _, _, rfl, ?_⟩
    cases w with
    | false =>
      refine iteT ⟨_, rfl, x, cs, p, g, o, rfl, hC.cu.crv, hp, hpn, hn, hB, fun H1 v s1 fr hv => ?_⟩
      refine ⟨_, rfl, x, _, dx, _, rfl, s1 _ _ hx, T.cl, T.n_break, (by show 5 < 1000; decide), ?_⟩
      rw [cset_b]
      refine ⟨_, rfl, x, _, dx, _, rfl, upd_same, T.cl, T.n_was_searched, (by show 5 < 1000; decide), ?_⟩
      rw [cset_w, upd_upd]
      obtain ⟨z1, z2, z3⟩ := cu_after hx hl s1 fr hv
      exact ⟨_, rfl, x, _, dx, _, _, rfl, upd_same, T.cl, T.n_break, cfs_b _ _ _ _ _, k _ v z1 z2 z3⟩
    | true =>
      exact iteF ⟨_, rfl, x, _, dx, _, _, rfl, hx, T.cl, T.n_break, cfs_b _ _ _ _ _, k H b (But.of (Same.refl _)) hC (hv rfl)⟩
theorem ok_NotGood_init (T : Txt K mg A) : FnOk P w K mg base CX0 1 A.f_NotGood_init A.d_NotGood_init ["self", "first", "second"] (sp_NotGood_init K A) := by
  refine T.F_NotGood_init.ok sc_NotGood_init (fun vs H Q E h => ?_) (fun cdv A0 outer s H vs Q E hr h => ?_)
  · obtain ⟨e, y, z, rfl, he, k⟩ := h
    rfl
  · obtain ⟨e, y, z, rfl, he, k⟩ := h
    refine ⟨_, (pss_cons (VX.ps_put (pv 0) (pv 1))
    (pss_one (VX.ps_put (pv 0) (pv 2)))), ?_⟩
    refine ⟨_, rfl, _, rfl, e, A.NotGood, rfl, T.O_NotGood, T.n_NotGood_first, .inl ⟨he, fun d hd hde => ?_⟩⟩
    exact ⟨_, rfl, _, rfl, e, A.NotGood, rfl, T.O_NotGood, T.n_NotGood_second, .inr ⟨d, _, upd_same, by rw [upd_ne hde]; exact upd_same, by show 1 ≤ 900; decide, k d hd hde⟩⟩
theorem ok_require_good (T : Txt K mg A) : FnOk P w K mg base (L2.CX P w) 6 A.f_require_good A.d_require_good ["curve"] (sp_require_good K A) := by
  have G_C_find_break := ok_C_find_break (P := P) (w := w) (base := base) T
  have G_NotGood_init := ok_NotGood_init (P := P) (w := w) (base := base) T
  refine T.F_require_good.okX sc_require_good (fun vs H Q E h => ?_) (fun cdv A0 outer s H vs Q E hr h => ?_)
  · obtain ⟨x, l, cs, p, g, o, rfl, hC, hp, hpn, hn, hB, k, ke⟩ := h
    rfl
  · obtain ⟨x, l, cs, p, g, o, rfl, hC, hp, hpn, hn, hB, k, ke⟩ := h
    refine ⟨_, (pss_cons (ps_set (i := 1) sc_require_good.nd rfl (by first | exact Or.inl rfl | exact Or.inr rfl) (pe_meth0 (pv 0) T.cl T.me_find_break G_C_find_break (hr.mono (by decide)) T.b_C_find_break .nil pass0))
    (pss_one (ps_if (pt_cmp (pc_notN (pv 1)) rfl) (pss_one (ps_raise rfl (takes_of rfl rfl rfl rfl) (VX.pmk_new T.O_NotGood T.iC_NotGood T.tI_NotGood G_NotGood_init (hr.mono (by decide)) T.b_NotGood_init pass0 rfl T.m_NotGood (pa_cons (pe_ix (r := rIxT K) ix_tup (pv 1) pe_int (fun _ _ => rfl)) (pa_cons (pe_ix (r := rIxT K) ix_tup (pv 1) pe_int (fun _ _ => rfl)) pa_nil))))) pss_nil))), ?_⟩
    obtain ⟨dx, w, b, hx, hl, hv⟩ := id hC
    refine ⟨_, rfl, x, dx, _, rfl, hx, cfs_no _ _ _ (by decide +kernel) (by decide +kernel) (by decide +kernel), x, l, cs, p, g, o, rfl, hC, hp, hpn, hn, hB, fun H1 v s1 c1 v1 => ?_⟩
    cases o with
    | none =>
      cases v1
      exact ⟨_, rfl, _, rfl, iteF (k rfl H1 s1 c1)⟩
    | some ab =>
      obtain ⟨a, b⟩ := ab
      obtain ⟨t, rfl, ht⟩ := v1
      refine ⟨_, rfl, _, rfl, iteT ?_⟩
      refine ⟨_, rfl, t, _, _, _, rfl, rfl, SqT.of ht, rfl, _, rfl, t, _, _, _, rfl, rfl, SqT.of ht, rfl, (by show 2 ≤ 1000; decide), fun e he => ⟨e, _, _, rfl, upd_same, fun d hd hde => ⟨rfl, d, _, ?_, upd_same, ?_, ?_⟩⟩⟩
      · rw [upd_ne (Ne.symm hde)]; exact upd_same
      · rw [upd_ne hde] at hd; exact hd
      · rw [upd_ne hde] at hd
        refine (fun sm : Same H1 _ => ke _ d (s1.trans (But.of sm)) (c1.same sm) upd_same) (fun c o q => ?_)
        have nd : c ≠ d := ne_of_none q hd
        have ne : c ≠ e := ne_of_none q he
        rw [upd_ne nd, del_ne ne, upd_ne nd, upd_ne ne, upd_ne nd, upd_ne ne]
        exact q
end
end VK


namespace VK
open PySem PySem.Spec PyProof.Rows L2 VM
theorem But.seq {K : PySem.W.Frag} {A : Ad} {H H1 : Hp} {x : Addr} {cs : List Int} {p g : Int} (k : But x H H1) (c : CrvAt A H x cs p g) {a : Addr} {xs : List V} (h : SqL K H a xs) : SqL K H1 a xs := by
  obtain ⟨dx, l, w, b, e, _⟩ := c
  rcases h with (h | ⟨o, h⟩) | h
  · exact .inl (.inl (k _ _ (ne_of h e (fun z => by cases z)) h))
  · exact .inl (.inr ⟨o, k _ _ (ne_of h e (fun z => by cases z)) h⟩)
  · exact .inr h
def sp_free_after (K : PySem.W.Frag) (_ : Ad) : Sp := fun vs H Q _ => ∃ (l m : Addr) (e : List Int) (f : Int → Int) (n : Nat), vs = [.ref l, .ref m] ∧ SqL K H l (e.map V.int) ∧ SqL K H m ((row (fun s => f (1 + s)) n).map V.int) ∧ e.length < n ∧ n ≤ 1000 ∧
  ∀ H', Same H H' → Q (.int (freeM f e)) H'
def sp_breach (K : PySem.W.Frag) (A : Ad) : Sp := fun vs H Q E => ∃ (v : V) (r : Option Nat) (x : Addr) (cs : List Int) (p g : Int), vs = [v, .ref x] ∧ RecAt K H v r ∧ CrvAt A H x cs p g ∧ 0 < p ∧ p ≤ cs.length ∧ cs.length ≤ 1000 ∧
  (r = none → ∀ H' u, Same H H' → Q u H') ∧ BadR A H E r
def sp_keeps := sp_breach
def sp_most_in (K : PySem.W.Frag) (A : Ad) : Sp := fun vs H Q E => ∃ (v : V) (r : Option Nat) (u : V) (n : String), vs = [v, u] ∧ RecAt K H v r ∧ KdS K H u n ∧
  (r = none → cnt u = true → ∀ H' u', Same H H' → Q u' H') ∧ BadR A H E r ∧ (r = none → cnt u = false → BadV A.InvalidLength "value" u H E)
def sp_greedy (K : PySem.W.Frag) (A : Ad) : Sp := fun vs H Q E => ∃ (x l : Addr) (cs : List Int) (p g : Int) (o : Option (Int × Int)) (u : V) (n : String), vs = [.ref x, u] ∧ CuL A H x l cs p g o ∧ 0 < p ∧ p ≤ cs.length ∧ cs.length ≤ 1000 ∧ BrkR (cvAt cs p g) cs.length o ∧
  (∀ H', But x H H' → Kd K H' u n) ∧ (o = none → cntTo 400 u = true → ∀ H' u', But x H H' → CuL A H' x l cs p g o → Q u' H') ∧
  (o = none → cntTo 400 u = false → ∀ H', But x H H' → CuL A H' x l cs p g o → BadV A.InvalidCount "value" u H' E) ∧ Refu A x l cs p g H E o
def sp_shaped (K : PySem.W.Frag) (A : Ad) : Sp := fun vs H Q E => ∃ (v : V) (r : Option Nat) (x l : Addr) (cs : List Int) (p g : Int) (o : Option (Int × Int)), vs = [v, .ref x] ∧ RecAt K H v r ∧ CuL A H x l cs p g o ∧ 0 < p ∧ p ≤ cs.length ∧ cs.length ≤ 1000 ∧ BrkR (cvAt cs p g) cs.length o ∧
  (r = none → o = none → ∀ H' u, But x H H' → CuL A H' x l cs p g o → Q u H') ∧ BadR A H E r ∧ (r = none → Refu A x l cs p g H E o)
section
variable {P : Program} {w : World} {K : PySem.W.Frag} {mg : Str → Option Value} {base : Heap} {A : Ad}
theorem ok_free_after (T : Txt K mg A) : FnOk P w K mg base CX0 1 A.f_free_after A.d_free_after ["record", "limits"] (sp_free_after K A) := by
  refine T.F_free_after.ok sc_free_after (fun vs H Q E h => ?_) (fun cdv A0 outer s H vs Q E hr h => ?_)
  · obtain ⟨l, m, e, f, n, rfl, hS, hM, hn, hn2, k⟩ := h
    rfl
  · obtain ⟨l, m, e, f, n, rfl, hS, hM, hn, hn2, k⟩ := h
    refine ⟨_, (pss_cons (ps_set (i := 2) sc_free_after.nd rfl (by first | exact Or.inl rfl | exact Or.inr rfl) (pe_ix (r := rIxL K) ix_list (pv 1) pe_int (fun _ _ => rfl)))
    (pss_cons (ps_set (i := 3) sc_free_after.nd rfl (by first | exact Or.inl rfl | exact Or.inr rfl) pe_int)
    (pss_cons (ps_for PassesOwn.never rfl (VE.pi_enumRev (by decide) (by decide) (by rfl) T.enumerate (by rfl) T.reversed (pa_cons (pv 0) pa_nil)) (pg_tup rfl (pgs_cons (pg_name (i := 4) sc_free_after.nd rfl (by first | exact Or.inl rfl | exact Or.inr rfl)) (pgs_cons (pg_name (i := 5) sc_free_after.nd rfl (by first | exact Or.inl rfl | exact Or.inr rfl)) pgs_nil)))
      (pss_cons (ps_aug (i := 3) sc_free_after.nd rfl (.inl rfl) (pv 5) ip_add)
    (pss_one (ps_set (i := 2) sc_free_after.nd rfl (by first | exact Or.inl rfl | exact Or.inr rfl) (pe_callB (call_min2 rfl) (by rfl) T.min (by decide +kernel) (pa_cons (pv 2) (pa_cons (pe_op op_sub (pe_ix (r := rIxL K) ix_list (pv 1) (pv 4) (fun _ _ => rfl)) (pv 3)) pa_nil)))))))
    (pss_one (ps_ret (pv 2)))))), ?_⟩
    refine ⟨_, rfl, m, _, _, _, rfl, rfl, hM, at_row (by decide) (by omega), ?_⟩
    refine ⟨_, rfl, l, _, rfl, hS, for_it (VE.walk_enumRev (K := K) (a := l) (xs := e.map V.int) (k := 1)) (fun i σ H' => ∃ v4 v5, σ = [some (.ref l), some (.ref m), some (.int (freeK f e i)), some (.int (tl e i)), v4, v5] ∧ Same H H')
      ⟨_, _, by rw [tl_zero]; rfl, Same.refl H⟩ (fun i σ H' _ ⟨_, _, _, s0⟩ => s0.seq hS) ?_ ?_⟩
    · rintro i x σ H' H2 hi ⟨v4, v5, rfl, s0⟩ ⟨t, a, b, rfl, ht, rfl, ea, eb⟩
      rw [List.length_map] at hi
      obtain ⟨hi', rfl⟩ := nth_map eb
      cases ea
      have s2 : Same H (upd H' t (.tup [.int (1 + (i : Nat)), .int (e.getD ((e.map V.int).length - 1 - i) 0)])) := Same.upd s0 (s0.free ht)
      refine ⟨t, _, rfl, SqT.of upd_same, rfl, _, _, rfl, _, _, rfl, rfl, ?_⟩
      refine ⟨_, rfl, _, rfl, _, _, rfl, rfl, ?_⟩
      refine ⟨_, rfl, _, rfl, _, rfl, m, _, _, _, rfl, rfl, s2.seq hM, at_row (by omega) (by omega), _, rfl, _, _, rfl, rfl, _, _, rfl, ?_⟩
      refine ⟨some (.int (1 + (i : Nat))), some (.int (e.getD ((e.map V.int).length - 1 - i) 0)), ?_, s2⟩
      have es := tl_step (us := e) (k := i) hi
      rw [List.length_map]
      simp only []
      rw [← es]
      have ef : (if f (1 + (1 + (i : Int))) - tl e (i + 1) < freeK f e i then f (1 + (1 + (i : Int))) - tl e (i + 1) else freeK f e i) = freeK f e (i + 1) := by
        show _ = min (freeK f e i) (f ((i : Int) + 2) - tl e (i + 1))
        rw [show 1 + (1 + (i : Int)) = (i : Int) + 2 by omega]
        split <;> omega
      rw [ef]
      rfl
    · rintro σ H' ⟨v4, v5, rfl, s0⟩
      rw [List.length_map]
      exact ⟨_, rfl, k H' s0⟩
theorem ok_breach (T : Txt K mg A) : FnOk P w K mg base (L2.CX P w) 4 A.f_breach A.d_breach ["record", "curve"] (sp_breach K A) := by
  have G_C_at := ok_C_at (P := P) (w := w) (base := base) T
  have G_require_record := ok_require_record (P := P) (w := w) (base := base) T
  have G_sums_before := ok_sums_before (P := P) (w := w) (base := base) T
  have G_window_sums := ok_window_sums (P := P) (w := w) (base := base) T
  refine T.F_breach.okX sc_breach (fun vs H Q E h => ?_) (fun cdv A0 outer s H vs Q E hr h => ?_)
  · obtain ⟨v, r, x, cs, p, g, rfl, hR, hC, hp, hpn, hcn, k, b⟩ := h
    rfl
  · obtain ⟨v, r, x, cs, p, g, rfl, hR, hC, hp, hpn, hcn, k, b⟩ := h
    refine ⟨_, (pss_cons (ps_expr (pe_call G_require_record (hr.mono (by decide)) rfl T.m_require_record T.k_require_record T.b_require_record .nil (passes_call (takes_of rfl rfl rfl rfl) (fun _ _ _ _ h => h)) (pa_cons (pv 0) pa_nil)))
    (pss_cons (ps_set (i := 2) sc_breach.nd rfl (by first | exact Or.inl rfl | exact Or.inr rfl) (pe_call G_sums_before (hr.mono (by decide)) rfl T.m_sums_before T.k_sums_before T.b_sums_before .nil pass0 (pa_cons (pv 0) pa_nil)))
    (pss_cons (ps_for (passes_of rfl) rfl (pi_range2 rfl T.range (pa_cons pe_int (pa_cons (pe_op op_add (pe_callB (r := VG.rLen K) VG.call_len (by rfl) T.len (by decide +kernel) (pa_cons (pv 0) pa_nil)) pe_int) pa_nil))) (pg_name (i := 3) sc_breach.nd rfl (by first | exact Or.inl rfl | exact Or.inr rfl))
      (pss_cons (ps_set (i := 4) sc_breach.nd rfl (by first | exact Or.inl rfl | exact Or.inr rfl) (pe_meth (pv 1) T.cl T.me_at G_C_at (hr.mono (by decide)) T.b_C_at .nil pass0 (pa_cons (pv 3) pa_nil)))
    (pss_one (ps_for (passes_of rfl) rfl (pi_enum (by rfl) T.enumerate (pa_cons (pe_call G_window_sums (hr.mono (by decide)) rfl T.m_window_sums T.k_window_sums T.b_window_sums .nil pass0 (pa_cons (pv 2) (pa_cons (pv 3) pa_nil))) pa_nil)) (pg_tup rfl (pgs_cons (pg_name (i := 5) sc_breach.nd rfl (by first | exact Or.inl rfl | exact Or.inr rfl)) (pgs_cons (pg_name (i := 6) sc_breach.nd rfl (by first | exact Or.inl rfl | exact Or.inr rfl)) pgs_nil)))
      (pss_one (ps_if (pt_cmpR op_gt (pv 6) (pv 4) (nomark _)) (pss_one (ps_ret (pe_tup (pa_cons (pv 3) (pa_cons (pv 5) (pa_cons (pe_op op_sub (pv 6) (pv 4)) pa_nil)))))) pss_nil))))))
    (pss_one (ps_ret pe_non))))), ?_⟩
    refine ⟨_, rfl, v, r, rfl, hR, fun z H1 s1 => ?_, b⟩
    subst z
    obtain ⟨l, us, rfl, hS, hn, hc⟩ := hR
    refine ⟨_, rfl, l, us, rfl, s1.seq hS, by omega, fun H2 ps s2 hps0 hps => ?_⟩
    have s02 := s1.trans s2
    refine ⟨_, rfl, l, _, rfl, .inl (s02.seq hS), _, _, rfl, rfl, _, _, rfl, ⟨by omega, by omega, by rw [List.length_map]; omega, by rw [List.length_map]; omega⟩, ?_⟩
    rw [List.length_map]
    refine for_range (lo := 1) (n := ((us.length : Int) + 1 - 1).toNat) (fun i σ H' => ∃ v3 v4 v5 v6, σ = [some (.ref l), some (.ref x), some (.ref ps), v3, v4, v5, v6] ∧ Same H2 H')
      ⟨_, _, _, _, rfl, Same.refl H2⟩ ?_ ?_
    · rintro i σ H' hi ⟨v3, v4, v5, v6, rfl, s3⟩
      have s03 := s02.trans s3
      obtain ⟨dx, lv, w, b0, hx, hlv⟩ := hC.same s03
      refine ⟨_, rfl, x, dx, _, rfl, hx, cfs_no _ _ _ (by decide +kernel) (by decide +kernel) (by decide +kernel), _, rfl, x, cs, p, g, _, rfl, ⟨dx, lv, w, b0, hx, hlv⟩, hp, hpn, hcn, by omega, by omega, ?_⟩
      have hps3 := s3 _ _ hps
      refine ⟨_, rfl, _, rfl, ps, us, 1 + i, rfl, SqL.of hps3, by omega, by omega, fun H4 ws s4 hw0 hw => ?_⟩
      refine ⟨ws, _, rfl, SqL.of hw, for_it (walk_enum (K := K) (a := ws) (xs := (row (fun s => win us s ((1 + i : Nat) : Int)) (us.length + 1 - (1 + i))).map V.int))
        (fun j σ H' => ∃ v5 v6, σ = [some (.ref l), some (.ref x), some (.ref ps), some (.int (1 + (i : Int))), some (.int (cvAt cs p g (1 + (i : Int)))), v5, v6] ∧ Same H4 H')
        ⟨_, _, rfl, Same.refl H4⟩ (fun j σ H' _ ⟨_, _, _, s5⟩ => s5.seq (SqL.of hw)) ?_ ?_⟩
      · rintro j y σ H5 H6 hj ⟨v5, v6, rfl, s5⟩ ⟨t, a, b, rfl, ht, rfl, ea, eb⟩
        obtain ⟨hj', rfl⟩ := nth_map eb
        cases ea
        rw [row_length] at hj'
        rw [row_getD hj'] at *
        have s6 : Same H4 (upd H5 t (.tup [.int (j : Nat), .int (win us j ((1 + i : Nat) : Int))])) := Same.upd s5 (s5.free ht)
        refine ⟨t, _, rfl, SqT.of upd_same, rfl, _, _, rfl, _, _, rfl, rfl, ?_⟩
        refine ⟨_, rfl, _, rfl, _, _, rfl, rfl, _, rfl, ifD (fun c => ?_) (fun c => ?_)⟩
        · refine ⟨_, rfl, _, rfl, _, rfl, _, rfl, _, _, rfl, rfl, (by show 3 ≤ sizeLine; decide), fun t2 ht2 => ?_⟩
          have s06 : Same H (upd H5 t (.tup [.int (j : Nat), .int (win us j ((1 + i : Nat) : Int))])) := s03.trans (s4.trans s6)
          exact k rfl _ _ (Same.upd s06 (s06.free ht2))
        · exact ⟨_, _, rfl, s6⟩
      · rintro σ H5 ⟨v5, v6, rfl, s5⟩
        exact ⟨_, _, _, _, rfl, s3.trans (s4.trans s5)⟩
    · rintro σ H' ⟨v3, v4, v5, v6, rfl, s3⟩
      exact k rfl H' _ (s02.trans s3)
theorem ok_keeps (T : Txt K mg A) : FnOk P w K mg base (L2.CX P w) 5 A.f_keeps A.d_keeps ["record", "curve"] (sp_keeps K A) := by
  have G_breach := ok_breach (P := P) (w := w) (base := base) T
  refine T.F_keeps.okX sc_keeps (fun vs H Q E h => ?_) (fun cdv A0 outer s H vs Q E hr h => ?_)
  · obtain ⟨v, r, x, cs, p, g, rfl, hR, hC, hp, hpn, hcn, k, b⟩ := h
    rfl
  · obtain ⟨v, r, x, cs, p, g, rfl, hR, hC, hp, hpn, hcn, k, b⟩ := h
    refine ⟨_, (pss_one (ps_ret (pe_cmp (pc_isN (pe_call G_breach (hr.mono (by decide)) rfl T.m_breach T.k_breach T.b_breach .nil (passes_call (takes_of rfl rfl rfl rfl) (fun _ _ _ _ h => h)) (pa_cons (pv 0) (pa_cons (pv 1) pa_nil)))) rfl))), ?_⟩
    exact ⟨_, rfl, _, rfl, v, r, x, cs, p, g, rfl, hR, hC, hp, hpn, hcn, fun z H' u s0 => k z H' _ s0, b⟩
theorem ok_most_in (T : Txt K mg A) : FnOk P w K mg base (L2.CX P w) 4 A.f_most_in A.d_most_in ["record", "length"] (sp_most_in K A) := by
  have G_InvalidLength_init := ok_InvalidLength_init (P := P) (w := w) (base := base) T
  have G_is_count := ok_is_count (P := P) (w := w) (base := base) T
  have G_require_record := ok_require_record (P := P) (w := w) (base := base) T
  have G_sums_before := ok_sums_before (P := P) (w := w) (base := base) T
  have G_window_sums := ok_window_sums (P := P) (w := w) (base := base) T
  refine T.F_most_in.okX sc_most_in (fun vs H Q E h => ?_) (fun cdv A0 outer s H vs Q E hr h => ?_)
  · obtain ⟨v, r, u, n, rfl, hR, hK, k, b, kb⟩ := h
    rfl
  · obtain ⟨v, r, u, n, rfl, hR, hK, k, b, kb⟩ := h
    refine ⟨_, (pss_cons (ps_expr (pe_call G_require_record (hr.mono (by decide)) rfl T.m_require_record T.k_require_record T.b_require_record .nil (passes_call (takes_of rfl rfl rfl rfl) (fun _ _ _ _ h => h)) (pa_cons (pv 0) pa_nil)))
    (pss_cons (ps_if (pt_not (pt_val (pe_call G_is_count (hr.mono (by decide)) rfl T.m_is_count T.k_is_count T.b_is_count .nil pass0 (pa_cons (pv 1) pa_nil)))) (pss_one (ps_raise rfl (takes_of rfl rfl rfl rfl) (VX.pmk_new T.O_InvalidLength T.iC_InvalidLength T.tI_InvalidLength G_InvalidLength_init (hr.mono (by decide)) T.b_InvalidLength_init pass0 rfl T.m_InvalidLength (pa_cons (pv 1) pa_nil)))) pss_nil)
    (pss_one (ps_ret (pe_callB (r := rMax K) (cr_max rfl) (by rfl) T.max (by decide +kernel) (pa_cons (pe_call G_window_sums (hr.mono (by decide)) rfl T.m_window_sums T.k_window_sums T.b_window_sums .nil pass0 (pa_cons (pe_call G_sums_before (hr.mono (by decide)) rfl T.m_sums_before T.k_sums_before T.b_sums_before .nil pass0 (pa_cons (pv 0) pa_nil)) (pa_cons (pe_callB (call_min2 rfl) (by rfl) T.min (by decide +kernel) (pa_cons (pv 1) (pa_cons (pe_callB (r := VG.rLen K) VG.call_len (by rfl) T.len (by decide +kernel) (pa_cons (pv 0) pa_nil)) pa_nil))) pa_nil))) pa_nil)))))), ?_⟩
    refine ⟨_, rfl, v, r, rfl, hR, fun z H1 s1 => ?_, b⟩
    subst z
    obtain ⟨l, us, rfl, hS, hn, hc⟩ := hR
    refine ⟨_, rfl, u, n, rfl, hK _ s1, ?_⟩
    cases e1 : cnt u with
    | false => exact ⟨_, rfl, iteT ⟨_, rfl, (by show 1 ≤ 1000; decide), raise1 ((kb rfl e1).same s1)⟩⟩
    | true =>
      obtain ⟨t, rfl, ht⟩ : ∃ t : Int, u = .int t ∧ 0 ≤ t := by
        cases u <;> first | exact ⟨_, rfl, of_decide_eq_true e1⟩ | cases e1
      refine ⟨_, rfl, iteF ?_⟩
      refine ⟨_, rfl, l, us, rfl, s1.seq hS, by omega, fun H2 ps s2 hps0 hps => ?_⟩
      refine ⟨_, rfl, _, rfl, l, _, rfl, .inl ((s1.trans s2).seq hS), _, _, rfl, ?_⟩
      rw [List.length_map]
      have em : (if (us.length : Int) < t then (us.length : Int) else t) = (((min t us.length).toNat : Nat) : Int) := by
        by_cases c : (us.length : Int) < t
        · rw [if_pos c]; omega
        · rw [if_neg c]; omega
      rw [em]
      refine ⟨ps, us, _, rfl, SqL.of hps, by omega, by omega, fun H3 q s3 hq0 hq => ?_⟩
      exact ⟨q, _, rfl, SqL.of hq, by rw [row_length]; omega, fun m h1 h2 => k rfl e1 H3 (.int m) ((s1.trans s2).trans s3)⟩
theorem ok_greedy (T : Txt K mg A) : FnOk P w K mg base (L2.CX P w) 7 A.f_greedy A.d_greedy ["curve", "ticks"] (sp_greedy K A) := by
  have G_C_at := ok_C_at (P := P) (w := w) (base := base) T
  have G_require_count_to := ok_require_count_to (P := P) (w := w) (base := base) T
  have G_require_good := ok_require_good (P := P) (w := w) (base := base) T
  refine T.F_greedy.okX sc_greedy (fun vs H Q E h => ?_) (fun cdv A0 outer s H vs Q E hr h => ?_)
  · obtain ⟨x, lx, cs, p, g, o, u, n, rfl, hC, hp, hpn, hn, hB, hK, k, kc, ke⟩ := h
    rfl
  · obtain ⟨x, lx, cs, p, g, o, u, n, rfl, hC, hp, hpn, hn, hB, hK, k, kc, ke⟩ := h
    refine ⟨_, (pss_cons (ps_expr (pe_call G_require_good (hr.mono (by decide)) rfl T.m_require_good T.k_require_good T.b_require_good .nil (passes_call (takes_of rfl rfl rfl rfl) (fun _ _ _ _ h => h)) (pa_cons (pv 0) pa_nil)))
    (pss_cons (ps_expr (pe_call G_require_count_to (hr.mono (by decide)) rfl T.m_require_count_to T.k_require_count_to T.b_require_count_to .nil (passes_call (takes_of rfl rfl rfl rfl) (fun _ _ _ _ h => h)) (pa_cons (pv 1) (pa_cons (pe_glob (v := .int 400) rfl T.v_MAX_TICKS ⟨_, rfl⟩) pa_nil))))
    (pss_one (ps_ret (pe_lc (own := [("tick", 2)]) (g := gName 2) (tt := tYes) rfl sc_greedy.nd (pi_range1 rfl T.range (pa_cons (pv 1) pa_nil)) (blkOk_by (own := [("tick", 2)]) (N := ["curve", "ticks", "tick"]) (sc := defScope s_greedy) (by decide +kernel)) (fun _ _ _ _ _ => pg_name (i := 2) sc_greedy.nd rfl (by first | exact Or.inl rfl | exact Or.inr rfl)) (fun _ _ _ _ _ => pts_nil) (fun _ _ _ _ _ => (pe_op op_sub (pe_meth (pv 0) T.cl T.me_at G_C_at (hr.mono (by decide)) T.b_C_at .nil pass0 (pa_cons (pe_op op_add (pv 2) pe_int) pa_nil)) (pe_meth (pv 0) T.cl T.me_at G_C_at (hr.mono (by decide)) T.b_C_at .nil pass0 (pa_cons (pv 2) pa_nil))))))))), ?_⟩
    refine ⟨_, rfl, x, lx, cs, p, g, o, rfl, hC, hp, hpn, hn, hB, fun z H1 s1 c1 => ?_, ke⟩
    refine ⟨_, rfl, u, n, 400, rfl, hK _ s1, fun e1 => ?_, fun e1 => kc z e1 H1 s1 c1⟩
    obtain ⟨m, rfl, hm⟩ : ∃ m : Int, u = .int m ∧ (0 ≤ m ∧ m ≤ 400) := by
      cases u <;> first | exact ⟨_, rfl, of_decide_eq_true e1⟩ | cases e1
    have hC1 := c1.cu.crv
    obtain ⟨dx, lv, w, b, hx, hlv⟩ := id hC1
    refine ⟨_, rfl, _, rfl, by omega, by omega, fun D hD => lc_range (lo := 0) (n := m.toNat) (fun j H2 => H2 D = some (.lst ((row (fun i => cvAt cs p g (i + 1) - cvAt cs p g i) j).map V.int)) ∧ Same H1 H2) ⟨upd_same, Same.upd (Same.refl _) hD⟩ ?_ ?_⟩
    · rintro j H2 hj ⟨hD2, s2⟩
      have hC2 := hC1.same s2
      refine ⟨rfl, _, rfl, x, dx, _, rfl, s2 _ _ hx, cfs_no _ _ _ (by decide +kernel) (by decide +kernel) (by decide +kernel), _, rfl, _, _, rfl, rfl, x, cs, p, g, _, rfl, hC2, hp, hpn, hn, by omega, by omega, ?_⟩
      refine ⟨_, rfl, x, dx, _, rfl, s2 _ _ hx, cfs_no _ _ _ (by decide +kernel) (by decide +kernel) (by decide +kernel), _, rfl, x, cs, p, g, _, rfl, hC2, hp, hpn, hn, by omega, by omega, _, _, rfl, rfl, _, hD2, small (by rw [List.length_map, row_length]; omega), ?_, Same.upd s2 hD⟩
      rw [upd_same, rowI_succ, Int.zero_add]
    · rintro H2 ⟨hD2, s2⟩
      exact k z e1 H2 (.ref D) (s1.trans (But.of s2)) (c1.same s2)
theorem ok_shaped (T : Txt K mg A) : FnOk P w K mg base (L2.CX P w) 7 A.f_shaped A.d_shaped ["record", "curve"] (sp_shaped K A) := by
  have G_C_at := ok_C_at (P := P) (w := w) (base := base) T
  have G_free_after := ok_free_after (P := P) (w := w) (base := base) T
  have G_require_good := ok_require_good (P := P) (w := w) (base := base) T
  have G_require_record := ok_require_record (P := P) (w := w) (base := base) T
  refine T.F_shaped.okX sc_shaped (fun vs H Q E h => ?_) (fun cdv A0 outer s H vs Q E hr h => ?_)
  · obtain ⟨v, r, x, lx, cs, p, g, o, rfl, hR, hCL, hp, hpn, hn, hB, k, b, kb⟩ := h
    rfl
  · obtain ⟨v, r, x, lx, cs, p, g, o, rfl, hR, hCL, hp, hpn, hn, hB, k, b, kb⟩ := h
    refine ⟨_, (pss_cons (ps_expr (pe_call G_require_record (hr.mono (by decide)) rfl T.m_require_record T.k_require_record T.b_require_record .nil (passes_call (takes_of rfl rfl rfl rfl) (fun _ _ _ _ h => h)) (pa_cons (pv 0) pa_nil)))
    (pss_cons (ps_expr (pe_call G_require_good (hr.mono (by decide)) rfl T.m_require_good T.k_require_good T.b_require_good .nil (passes_call (takes_of rfl rfl rfl rfl) (fun _ _ _ _ h => h)) (pa_cons (pv 1) pa_nil)))
    (pss_cons (ps_setLc (i := 2) (own := [("length", 7)]) (g := gName 7) (tt := tYes) rfl sc_shaped.nd rfl rfl (sw_true rfl rfl rfl (by decide +kernel)) (pi_range2 rfl T.range (pa_cons pe_int (pa_cons (pe_op op_add (pe_callB (r := VG.rLen K) VG.call_len (by rfl) T.len (by decide +kernel) (pa_cons (pv 0) pa_nil)) pe_int) pa_nil))) (blkOk_by (own := [("length", 7)]) (N := ["record", "curve", "limits", "entered", "waiting", "units", "entering", "length"]) (sc := defScope s_shaped) (by decide +kernel)) (fun _ _ _ _ _ => pg_name (i := 7) sc_shaped.nd rfl (by first | exact Or.inl rfl | exact Or.inr rfl)) (fun _ _ _ _ _ => pts_nil) (fun _ _ _ _ _ => (pe_meth (pv 1) T.cl T.me_at G_C_at (hr.mono (by decide)) T.b_C_at .nil pass0 (pa_cons (pv 7) pa_nil))))
    (pss_cons (ps_set (i := 3) sc_shaped.nd rfl (by first | exact Or.inl rfl | exact Or.inr rfl) (pe_lst pa_nil))
    (pss_cons (ps_set (i := 4) sc_shaped.nd rfl (by first | exact Or.inl rfl | exact Or.inr rfl) pe_int)
    (pss_cons (ps_for (passes_of rfl) rfl (pi_list (pv 0)) (pg_name (i := 5) sc_shaped.nd rfl (by first | exact Or.inl rfl | exact Or.inr rfl))
      (pss_cons (ps_aug (i := 4) sc_shaped.nd rfl (.inl rfl) (pv 5) ip_add)
    (pss_cons (ps_set (i := 6) sc_shaped.nd rfl (by first | exact Or.inl rfl | exact Or.inr rfl) (pe_callB (call_min2 rfl) (by rfl) T.min (by decide +kernel) (pa_cons (pv 4) (pa_cons (pe_call G_free_after (hr.mono (by decide)) rfl T.m_free_after T.k_free_after T.b_free_after .nil pass0 (pa_cons (pv 3) (pa_cons (pv 2) pa_nil))) pa_nil))))
    (pss_cons (ps_aug (i := 4) sc_shaped.nd rfl (.inl rfl) (pv 6) ip_sub)
    (pss_one (ps_expr (pe_bm PySem.F.plainAttrs_list PySem.F.slot_list_append PySem.F.type_list_append mt_append (pv 3) (pa_cons (pv 6) pa_nil))))))))
    (pss_one (ps_ret (pv 3))))))))), ?_⟩
    refine ⟨_, rfl, v, r, rfl, hR, fun z H1 s1 => ?_, b⟩
    subst z
    obtain ⟨l, us, rfl, hS, hl, hc⟩ := hR
    refine ⟨_, rfl, x, lx, cs, p, g, o, rfl, hCL.same s1, hp, hpn, hn, hB, fun z H2 b2 c2 => ?_, ?_⟩
    rotate_left
    · cases o with
      | none => trivial
      | some ab =>
        obtain ⟨a, bb⟩ := ab
        exact fun H' d bt ct hd => kb rfl H' d ((But.of s1).trans bt) ct hd
    subst z
    have hC2 := c2.cu.crv
    have hS2 : SqL K H2 l (us.map V.int) := b2.seq (hCL.cu.crv.same s1) (s1.seq hS)
    obtain ⟨dx, lv, w, b0, hx, hlv⟩ := id hC2
    refine ⟨_, rfl, l, _, rfl, .inl hS2, _, _, rfl, rfl, _, _, rfl, ⟨by omega, by omega, by rw [List.length_map]; omega, by rw [List.length_map]; omega⟩, fun D hD => ?_⟩
    rw [List.length_map]
    refine lc_range (lo := 1) (n := ((us.length : Int) + 1 - 1).toNat) (fun j H3 => H3 D = some (.lst ((row (fun s => cvAt cs p g (1 + s)) j).map V.int)) ∧ Same H2 H3) ⟨upd_same, Same.upd (Same.refl _) hD⟩ ?_ ?_
    · rintro j H3 hj ⟨hD3, s3⟩
      refine ⟨rfl, _, rfl, x, dx, _, rfl, s3 _ _ hx, cfs_no _ _ _ (by decide +kernel) (by decide +kernel) (by decide +kernel), _, rfl, x, cs, p, g, _, rfl, hC2.same s3, hp, hpn, hn, by omega, by omega, _, hD3, small (by rw [List.length_map, row_length]; omega), ?_, Same.upd s3 hD⟩
      rw [upd_same, rowI_succ]
    · rintro H3 ⟨hD3, s3⟩
      refine ⟨(by show 0 ≤ sizeLine; decide), fun q hq => ?_⟩
      have nDq : D ≠ q := ne_of_none hD3 hq
      have s4 : Same H2 (upd H3 q (.lst [])) := Same.upd s3 (s3.free hq)
      refine ⟨_, rfl, l, rfl, ⟨_, s4.seq hS2⟩, for_list (K := K) (a := l) (xs := us.map V.int) (fun i σ H' => ∃ v5 v6, σ = [some (.ref l), some (.ref x), some (.ref D), some (.ref q), some (.int (shG (cvAt cs p g) (us.take i)).2), v5, v6, none] ∧ Same H2 H' ∧ H' D = some (.lst ((row (fun s => cvAt cs p g (1 + s)) us.length).map V.int)) ∧ H' q = some (.lst ((shG (cvAt cs p g) (us.take i)).1.map V.int)))
        ⟨_, _, rfl, s4, ?_, upd_same⟩ (fun i σ H' _ ⟨_, _, _, s0, _⟩ => s0.seq hS2) ?_ ?_⟩
      · rw [upd_ne nDq, hD3, show ((us.length : Int) + 1 - 1).toNat = us.length by omega]
      · rintro i y σ H' hy ⟨v5, v6, rfl, s0, hD5, hq5⟩
        obtain ⟨hi, rfl⟩ := nth_map hy
        have el : (shG (cvAt cs p g) (us.take i)).1.length = i := by rw [shG_length, List.length_take]; omega
        refine ⟨_, rfl, _, rfl, _, _, rfl, rfl, ?_⟩
        refine ⟨_, rfl, _, rfl, _, rfl, q, D, _, cvAt cs p g, us.length, rfl, SqL.of hq5, SqL.of hD5, by omega, by omega, fun H6 s6 => ?_⟩
        have hq6 := s6 _ _ hq5
        refine ⟨_, _, rfl, ?_⟩
        refine ⟨_, rfl, _, rfl, _, _, rfl, rfl, ?_⟩
        refine ⟨_, rfl, .inl ⟨rfl, _, SqL.of hq6⟩, _, rfl, q, _, _, rfl, rfl, hq6, small (by rw [List.length_map, el]; omega), ?_⟩
        have e1 := shG_take (f := cvAt cs p g) (us := us) (i := i) hi
        have e2 : (if freeM (cvAt cs p g) (shG (cvAt cs p g) (us.take i)).1 < (shG (cvAt cs p g) (us.take i)).2 + us.getD i 0 then freeM (cvAt cs p g) (shG (cvAt cs p g) (us.take i)).1 else (shG (cvAt cs p g) (us.take i)).2 + us.getD i 0)
            = min ((shG (cvAt cs p g) (us.take i)).2 + us.getD i 0) (freeM (cvAt cs p g) (shG (cvAt cs p g) (us.take i)).1) := by
          split <;> omega
        rw [e2]
        refine ⟨some (.int (us.getD i 0)), some (.int (min ((shG (cvAt cs p g) (us.take i)).2 + us.getD i 0) (freeM (cvAt cs p g) (shG (cvAt cs p g) (us.take i)).1))), ?_, Same.upd (s0.trans s6) (s3.free hq), ?_, ?_⟩
        · rw [e1]; rfl
        · rw [upd_ne nDq]; exact s6 _ _ hD5
        · rw [upd_same, e1]
          unfold shS
          simp only [List.map_append, List.map_cons, List.map_nil]
      · rintro σ H' ⟨v5, v6, rfl, s0, hD5, hq5⟩
        rw [List.length_map, List.take_length] at hq5
        exact ⟨_, rfl, k rfl rfl H' (.ref q) ((But.of s1).trans (b2.trans (But.of s0))) (c2.same s0)⟩
end
end VK


namespace VK
open PySem PySem.Spec PyProof.Rows L2 VM
theorem db_cinit {K : PySem.W.Frag} {mg : Str → Option Value} {A : Ad} (T : Txt K mg A) : ∃ ds, Vals [V.int 1, V.int 0] ds ∧ Binds K A.d_C_init ["self", "values", "period", "gain"] ds :=
  T.F_C_init.binds0 (ps := ["self", "values", "period", "gain"]) 2 (by simp) rfl (fun D doc pm an cdv ct us ks h1 h2 => match us, ks, h1, h2 with | [_, _], [_, _], _, _ => ⟨_, _, _, _, _, _, rfl, rfl, _, _, _, _, _, _, rfl, rfl, rfl⟩)
theorem cset_v (l l2 : Addr) (p g : Int) (w : Bool) (b : V) : putF "_values" (V.ref l2) (cfs l p g w b) = cfs l2 p g w b := by
  show (if ("_values" : Str) = "_values" then _ else _) = _
  rw [if_pos rfl]
  rfl
theorem cset_p (l : Addr) (p p2 g : Int) (w : Bool) (b : V) : putF "_period" (V.int p2) (cfs l p g w b) = cfs l p2 g w b := by
  show (if ("_values" : Str) = "_period" then _ else (("_values" : Str), V.ref l) :: (if ("_period" : Str) = "_period" then _ else _)) = _
  rw [if_neg n_vp, if_pos rfl]
  rfl
theorem cset_g (l : Addr) (p g g2 : Int) (w : Bool) (b : V) : putF "_gain" (V.int g2) (cfs l p g w b) = cfs l p g2 w b := by
  show (if ("_values" : Str) = "_gain" then _ else (("_values" : Str), V.ref l) :: (if ("_period" : Str) = "_gain" then _ else (("_period" : Str), V.int p) :: (if ("_gain" : Str) = "_gain" then _ else _))) = _
  rw [if_neg n_vg, if_neg n_pg, if_pos rfl]
  rfl
theorem truL {K : PySem.W.Frag} {H : Hp} {a : Addr} {xs : List V} (h : SqL K H a xs) : TruV K (.ref a) H (!xs.isEmpty) := .inl ⟨xs, h, rfl⟩
theorem Cnts.nn {us : List Int} (h : Cnts us) : ∀ u ∈ us, 0 ≤ u := fun u hu => by
  obtain ⟨i, hi, rfl⟩ := List.getElem_of_mem hu
  have := h i hi
  rw [List.getD_eq_getElem?_getD, List.getElem?_eq_getElem hi] at this
  exact this
theorem row_win {us : List Int} {k : Nat} {m : Int} (hk : k ≤ us.length) (hm : m ∈ row (fun s => win us s k) (us.length + 1 - k)) (hx : ∀ y ∈ row (fun s => win us s k) (us.length + 1 - k), y ≤ m) : m = mostM us k := by
  rw [show us.length + 1 - k = (us.length - k) + 1 by omega] at hm hx
  have e := maxTo_is (g := fun s : Nat => win us s k) (n := us.length - k) hm hx
  rw [e]
  unfold mostM
  by_cases c : us.length ≤ k
  · have : k = us.length := by omega
    subst this
    rw [if_pos (Nat.le_refl _), Nat.sub_self]
    exact win_all
  · rw [if_neg c]
theorem tV_cons {us : List Int} (h : us ≠ []) : tV us = row (fun i => mostM us (i.toNat + 1)) us.length := by
  unfold tV row vals
  rw [if_neg h]
  exact List.map_congr_left fun i _ => by
    unfold tF
    show mostM us ((i : Int) + 1).toNat = mostM us (((i : Nat) : Int).toNat + 1)
    rw [show ((i : Int) + 1).toNat = i + 1 by omega, Int.toNat_natCast]
theorem zero_at (i : Nat) : ([0] : List Int).getD i 0 = 0 := by cases i <;> simp
theorem ok_zero : OkRow [0] 1 0 := ⟨by decide, by decide, fun i _ => by rw [zero_at]; decide, fun i _ => by rw [zero_at]; decide, fun i _ => by rw [zero_at, zero_at]; decide, .inl rfl, by decide, by decide, by decide, by rw [zero_at, zero_at]; decide⟩
def sp_make_curve (K : PySem.W.Frag) (A : Ad) : Sp := fun vs H Q _ => ∃ (l : Addr) (xs : List Int) (p g : Int), vs = [.ref l, .int p, .int g] ∧ SqL K H l (xs.map V.int) ∧ 0 < p ∧ p ≤ xs.length ∧ xs.length ≤ 1000 ∧
  ∀ H' x dx l', Same H H' → H x = none → H l' = none → H' x = some (.ins A.Curve dx (cfs l' (formP xs p g).1 (formP xs p g).2 false .non)) → H' l' = some (.lst ((formV xs p g).map V.int)) → Q (.ref x) H'
def sp_tightest (K : PySem.W.Frag) (A : Ad) : Sp := fun vs H Q E => ∃ (v : V) (r : Option Nat), vs = [v] ∧ RecAt K H v r ∧ (r = none → ∀ H' u, Same H H' → Q u H') ∧ BadR A H E r
section
variable {P : Program} {w : World} {K : PySem.W.Frag} {mg : Str → Option Value} {base : Heap} {A : Ad}
theorem ok_make_curve (T : Txt K mg A) : FnOk P w K mg base CX0 7 A.f_make_curve A.d_make_curve ["values", "period", "gain"] (sp_make_curve K A) := by
  have G_C_init := ok_C_init (P := P) (w := w) (base := base) T
  have G_least_form := ok_least_form (P := P) (w := w) (base := base) T
  obtain ⟨dc, hvC, hbC⟩ := db_cinit T
  refine T.F_make_curve.ok sc_make_curve (fun vs H Q E h => ?_) (fun cdv A0 outer s H vs Q E hr h => ?_)
  · obtain ⟨l, xs, p, g, rfl, hS, hp, hpn, hn, k⟩ := h
    rfl
  · obtain ⟨l, xs, p, g, rfl, hS, hp, hpn, hn, k⟩ := h
    refine ⟨_, (pss_cons (ps_set (i := 3) sc_make_curve.nd rfl (by first | exact Or.inl rfl | exact Or.inr rfl) (pe_make T.M_Curve G_C_init (hr.mono (by decide)) rfl T.m_Curve hbC hvC pass0 (pa_cons (pe_lst (pa_cons pe_int pa_nil)) pa_nil)))
    (pss_cons (ps_asg (pe_call G_least_form (hr.mono (by decide)) rfl T.m_least_form T.k_least_form T.b_least_form .nil pass0 (pa_cons (pv 0) (pa_cons (pv 1) (pa_cons (pv 2) pa_nil)))) (pg_tup rfl (pgs_cons (pg_name (i := 4) sc_make_curve.nd rfl (by first | exact Or.inl rfl | exact Or.inr rfl)) (pgs_cons (pg_name (i := 5) sc_make_curve.nd rfl (by first | exact Or.inl rfl | exact Or.inr rfl)) (pgs_cons (pg_name (i := 6) sc_make_curve.nd rfl (by first | exact Or.inl rfl | exact Or.inr rfl)) pgs_nil)))))
    (pss_cons (ps_fld (pv 3) (pv 4) rfl)
    (pss_cons (ps_fld (pv 3) (pv 5) rfl)
    (pss_cons (ps_fld (pv 3) (pv 6) rfl)
    (pss_one (ps_ret (pv 3)))))))), ?_⟩
    refine ⟨(by show 1 ≤ sizeLine; decide), fun q hq => fun x dx hx hdx hne => ⟨x, dx, q, [0], 1, 0, rfl, upd_same, SqL.of ?_, ok_zero, fun H1 dxc lc keep hlc c1 c2 => ⟨rfl, ?_⟩⟩⟩
    · rw [upd_ne (ne_of_none upd_same hx), upd_ne (ne_of_none upd_same hdx)]; exact upd_same
    have s0 : Same H (upd H q (.lst [.int 0])) := Same.upd (Same.refl _) hq
    have s1 : Same H H1 := fun b o e => keep b o (ne_of_none (s0 _ _ e) hx) (by rw [upd_ne (ne_of_none (s0 _ _ e) hx), upd_ne (ne_of_none (s0 _ _ e) hdx)]; exact s0 _ _ e)
    refine ⟨_, rfl, _, rfl, _, rfl, l, xs, p, g, rfl, s1.seq hS, hp, hpn, hn, fun H2 t l' s2 ht0 hl0 ht hl => ?_⟩
    refine ⟨t, _, rfl, SqT.of ht, rfl, _, _, rfl, _, _, rfl, _, _, rfl, rfl, ?_⟩
    have x2 := s2 _ _ c1
    have nlx : l' ≠ x := fun z => by rw [z, c1] at hl0; cases hl0
    refine ⟨_, rfl, _, rfl, x, _, dxc, _, rfl, x2, T.cl, T.n_values, (by show 5 < 1000; decide), ?_⟩
    rw [cset_v]
    refine ⟨_, rfl, _, rfl, x, _, dxc, _, rfl, upd_same, T.cl, T.n_period, (by show 5 < 1000; decide), ?_⟩
    rw [cset_p]
    refine ⟨_, rfl, _, rfl, x, _, dxc, _, rfl, upd_same, T.cl, T.n_gain, (by show 5 < 1000; decide), ?_⟩
    rw [cset_g, upd_upd, upd_upd]
    refine ⟨_, rfl, k _ x dxc l' (fun b o e => ?_) (s0.free hx) (s1.free hl0) upd_same (by rw [upd_ne nlx]; exact hl)⟩
    rw [upd_ne (ne_of_none (s0 _ _ e) hx)]
    exact s2 _ _ (s1 _ _ e)
theorem ok_tightest (T : Txt K mg A) : FnOk P w K mg base (L2.CX P w) 8 A.f_tightest A.d_tightest ["record"] (sp_tightest K A) := by
  have G_make_curve := ok_make_curve (P := P) (w := w) (base := base) T
  have G_require_record := ok_require_record (P := P) (w := w) (base := base) T
  have G_sums_before := ok_sums_before (P := P) (w := w) (base := base) T
  have G_window_sums := ok_window_sums (P := P) (w := w) (base := base) T
  refine T.F_tightest.okX sc_tightest (fun vs H Q E h => ?_) (fun cdv A0 outer s H vs Q E hr h => ?_)
  · obtain ⟨v, r, rfl, hR, k, b⟩ := h
    rfl
  · obtain ⟨v, r, rfl, hR, k, b⟩ := h
    refine ⟨_, (pss_cons (ps_expr (pe_call G_require_record (hr.mono (by decide)) rfl T.m_require_record T.k_require_record T.b_require_record .nil (passes_call (takes_of rfl rfl rfl rfl) (fun _ _ _ _ h => h)) (pa_cons (pv 0) pa_nil)))
    (pss_cons (ps_set (i := 1) sc_tightest.nd rfl (by first | exact Or.inl rfl | exact Or.inr rfl) (pe_call G_sums_before (hr.mono (by decide)) rfl T.m_sums_before T.k_sums_before T.b_sums_before .nil pass0 (pa_cons (pv 0) pa_nil)))
    (pss_cons (ps_setLc (i := 2) (own := [("length", 3)]) (g := gName 3) (tt := tYes) rfl sc_tightest.nd rfl rfl (sw_true rfl rfl rfl (by decide +kernel)) (pi_range2 rfl T.range (pa_cons pe_int (pa_cons (pe_op op_add (pe_callB (r := VG.rLen K) VG.call_len (by rfl) T.len (by decide +kernel) (pa_cons (pv 0) pa_nil)) pe_int) pa_nil))) (blkOk_by (own := [("length", 3)]) (N := ["record", "sums", "values", "length"]) (sc := defScope s_tightest) (by decide +kernel)) (fun _ _ _ _ _ => pg_name (i := 3) sc_tightest.nd rfl (by first | exact Or.inl rfl | exact Or.inr rfl)) (fun _ _ _ _ _ => pts_nil) (fun _ _ _ _ _ => (pe_callB (r := rMax K) (cr_max rfl) (by rfl) T.max (by decide +kernel) (pa_cons (pe_call G_window_sums (hr.mono (by decide)) rfl T.m_window_sums T.k_window_sums T.b_window_sums .nil pass0 (pa_cons (pv 1) (pa_cons (pv 3) pa_nil))) pa_nil))))
    (pss_one (ps_ret (pe_call G_make_curve (hr.mono (by decide)) rfl T.m_make_curve T.k_make_curve T.b_make_curve .nil pass0 (pa_cons (pe_orT (pv 2) (pe_one (pe_lst (pa_cons pe_int pa_nil)))) (pa_cons pe_int (pa_cons pe_int pa_nil))))))))), ?_⟩
    refine ⟨_, rfl, v, r, rfl, hR, fun z H1 s1 => ?_, b⟩
    subst z
    obtain ⟨l, us, rfl, hS, hn, hc⟩ := hR
    refine ⟨_, rfl, l, us, rfl, s1.seq hS, by omega, fun H2 S s2 hs0 hs => ?_⟩
    have s02 := s1.trans s2
    refine ⟨_, rfl, l, _, rfl, .inl (s02.seq hS), _, _, rfl, rfl, _, _, rfl, ⟨by omega, by omega, by rw [List.length_map]; omega, by rw [List.length_map]; omega⟩, fun D hD => ?_⟩
    rw [List.length_map]
    refine lc_range (lo := 1) (n := ((us.length : Int) + 1 - 1).toNat) (fun j H3 => H3 D = some (.lst ((row (fun i => mostM us (i.toNat + 1)) j).map V.int)) ∧ Same H2 H3) ⟨upd_same, Same.upd (Same.refl _) hD⟩ ?_ ?_
    · rintro j H3 hj ⟨hD3, s3⟩
      have hj' : j < us.length := by omega
      refine ⟨rfl, _, rfl, _, rfl, S, us, j + 1, (by rw [show 1 + (j : Int) = ((j + 1 : Nat) : Int) by omega]; rfl), SqL.of (s3 _ _ hs), by omega, by omega, fun H4 q s4 hq0 hq => ⟨q, _, rfl, SqL.of hq, by rw [row_length]; omega, fun m hm hmx => ?_⟩⟩
      have em := row_win (by omega) hm hmx
      subst em
      refine ⟨_, s4 _ _ hD3, small (by rw [List.length_map, row_length]; omega), ?_, Same.upd (s3.trans s4) hD⟩
      rw [upd_same, rowI_succ, Int.toNat_natCast]
    rintro H3 ⟨hD3, s3⟩
    rw [show ((us.length : Int) + 1 - 1).toNat = us.length by omega] at hD3
    have s03 := s02.trans s3
    have dn : H D = none := s02.free hD
    refine ⟨_, rfl, _, truL (SqL.of hD3), ?_⟩
    have fin : ∀ (H4 : Hp) (q : Addr), Same H H4 → H4 q = some (.lst ((tV us).map V.int)) → sp_make_curve K A [.ref q, .int 1, .int 0] H4 Q E0 := fun H4 q s4 hq => by
      refine ⟨q, tV us, 1, 0, rfl, SqL.of hq, by decide, by rw [tV_length]; omega, by rw [tV_length]; omega, fun H5 x dx l' s5 hx0 hl0 hx hl => ?_⟩
      exact k rfl H5 (.ref x) (s4.trans s5)
    by_cases z : us = []
    · subst z
      refine iteF ⟨(by show 1 ≤ sizeLine; decide), fun q hq => ?_⟩
      exact fin _ q (Same.upd s03 (s03.free hq)) upd_same
    · have ne : (!((row (fun i => mostM us (i.toNat + 1)) us.length).map V.int).isEmpty) = true := by
        have : us.length ≠ 0 := fun y => z (List.length_eq_zero_iff.mp y)
        rw [Bool.not_eq_true', List.isEmpty_eq_false_iff]
        intro y
        have z2 := congrArg List.length y
        rw [List.length_map, row_length] at z2
        exact this z2
      rw [ne]
      refine iteT ?_
      refine fin _ D s03 ?_
      rw [tV_cons z]; exact hD3
end
end VK


namespace VK
open PySem PySem.Spec PyProof.Rows L2 VM
/-- the attributes of a police -/
def pfs (c : Addr) (q h r : Int) (le : Addr) (cl : Bool) (ll : Addr) : List (Str × V) := [("_curve", V.ref c), ("_queue", V.int q), ("_held", V.int h), ("_returned", V.int r), ("_entered", V.ref le), ("_was_closed", V.bl cl), ("_limits", V.ref ll)]
theorem put_in {f g : Str} {v x : V} {r : List (Str × V)} (h : ¬ g = f) : putF f v ((g, x) :: r) = (g, x) :: putF f v r := by
  show (if g = f then _ else _) = _
  rw [if_neg h]
theorem put_at {f : Str} {v x : V} {r : List (Str × V)} : putF f v ((f, x) :: r) = (f, v) :: r := by
  show (if f = f then _ else _) = _
  rw [if_pos rfl]
theorem look_in {f g : Str} {x : V} {r : List (Str × V)} (h : (f == g) = false) : ((g, x) :: r).lookup f = r.lookup f := by
  simp [List.lookup, h]
theorem look_at {f : Str} {x : V} {r : List (Str × V)} : ((f, x) :: r).lookup f = some x := by
  simp [List.lookup]
theorem pput0 (c : Addr) : putF "_curve" (V.ref c) [] = [(("_curve" : Str), V.ref c)] := rfl
theorem pput1 (c : Addr) (q : Int) : putF "_queue" (V.int q) [(("_curve" : Str), V.ref c)] = [(("_curve" : Str), V.ref c), (("_queue" : Str), V.int q)] := by
  rw [put_in (by decide +kernel)]
  rfl
theorem pput2 (c : Addr) (q : Int) (h : Int) : putF "_held" (V.int h) [(("_curve" : Str), V.ref c), (("_queue" : Str), V.int q)] = [(("_curve" : Str), V.ref c), (("_queue" : Str), V.int q), (("_held" : Str), V.int h)] := by
  rw [put_in (by decide +kernel)]
  rw [put_in (by decide +kernel)]
  rfl
theorem pput3 (c : Addr) (q : Int) (h : Int) (r : Int) : putF "_returned" (V.int r) [(("_curve" : Str), V.ref c), (("_queue" : Str), V.int q), (("_held" : Str), V.int h)] = [(("_curve" : Str), V.ref c), (("_queue" : Str), V.int q), (("_held" : Str), V.int h), (("_returned" : Str), V.int r)] := by
  rw [put_in (by decide +kernel)]
  rw [put_in (by decide +kernel)]
  rw [put_in (by decide +kernel)]
  rfl
theorem pput4 (c : Addr) (q : Int) (h : Int) (r : Int) (le : Addr) : putF "_entered" (V.ref le) [(("_curve" : Str), V.ref c), (("_queue" : Str), V.int q), (("_held" : Str), V.int h), (("_returned" : Str), V.int r)] = [(("_curve" : Str), V.ref c), (("_queue" : Str), V.int q), (("_held" : Str), V.int h), (("_returned" : Str), V.int r), (("_entered" : Str), V.ref le)] := by
  rw [put_in (by decide +kernel)]
  rw [put_in (by decide +kernel)]
  rw [put_in (by decide +kernel)]
  rw [put_in (by decide +kernel)]
  rfl
theorem pput5 (c : Addr) (q : Int) (h : Int) (r : Int) (le : Addr) (cl : Bool) : putF "_was_closed" (V.bl cl) [(("_curve" : Str), V.ref c), (("_queue" : Str), V.int q), (("_held" : Str), V.int h), (("_returned" : Str), V.int r), (("_entered" : Str), V.ref le)] = [(("_curve" : Str), V.ref c), (("_queue" : Str), V.int q), (("_held" : Str), V.int h), (("_returned" : Str), V.int r), (("_entered" : Str), V.ref le), (("_was_closed" : Str), V.bl cl)] := by
  rw [put_in (by decide +kernel)]
  rw [put_in (by decide +kernel)]
  rw [put_in (by decide +kernel)]
  rw [put_in (by decide +kernel)]
  rw [put_in (by decide +kernel)]
  rfl
theorem pput6 (c : Addr) (q : Int) (h : Int) (r : Int) (le : Addr) (cl : Bool) (ll : Addr) : putF "_limits" (V.ref ll) [(("_curve" : Str), V.ref c), (("_queue" : Str), V.int q), (("_held" : Str), V.int h), (("_returned" : Str), V.int r), (("_entered" : Str), V.ref le), (("_was_closed" : Str), V.bl cl)] = [(("_curve" : Str), V.ref c), (("_queue" : Str), V.int q), (("_held" : Str), V.int h), (("_returned" : Str), V.int r), (("_entered" : Str), V.ref le), (("_was_closed" : Str), V.bl cl), (("_limits" : Str), V.ref ll)] := by
  rw [put_in (by decide +kernel)]
  rw [put_in (by decide +kernel)]
  rw [put_in (by decide +kernel)]
  rw [put_in (by decide +kernel)]
  rw [put_in (by decide +kernel)]
  rw [put_in (by decide +kernel)]
  rfl
theorem pset_c (c : Addr) (q h r : Int) (le : Addr) (cl : Bool) (ll : Addr) (z : Addr) : putF "_curve" (V.ref z) (pfs c q h r le cl ll) = pfs z q h r le cl ll := by
  unfold pfs
  
  rw [put_at]
theorem pget_c (c : Addr) (q h r : Int) (le : Addr) (cl : Bool) (ll : Addr) : (pfs c q h r le cl ll).lookup ("_curve" : Str) = some (V.ref c) := by
  unfold pfs
  
  rw [look_at]
theorem pset_q (c : Addr) (q h r : Int) (le : Addr) (cl : Bool) (ll : Addr) (z : Int) : putF "_queue" (V.int z) (pfs c q h r le cl ll) = pfs c z h r le cl ll := by
  unfold pfs
  rw [put_in (by decide +kernel)]
  rw [put_at]
theorem pget_q (c : Addr) (q h r : Int) (le : Addr) (cl : Bool) (ll : Addr) : (pfs c q h r le cl ll).lookup ("_queue" : Str) = some (V.int q) := by
  unfold pfs
  rw [look_in (by decide +kernel)]
  rw [look_at]
theorem pset_h (c : Addr) (q h r : Int) (le : Addr) (cl : Bool) (ll : Addr) (z : Int) : putF "_held" (V.int z) (pfs c q h r le cl ll) = pfs c q z r le cl ll := by
  unfold pfs
  rw [put_in (by decide +kernel)]
  rw [put_in (by decide +kernel)]
  rw [put_at]
theorem pget_h (c : Addr) (q h r : Int) (le : Addr) (cl : Bool) (ll : Addr) : (pfs c q h r le cl ll).lookup ("_held" : Str) = some (V.int h) := by
  unfold pfs
  rw [look_in (by decide +kernel)]
  rw [look_in (by decide +kernel)]
  rw [look_at]
theorem pset_r (c : Addr) (q h r : Int) (le : Addr) (cl : Bool) (ll : Addr) (z : Int) : putF "_returned" (V.int z) (pfs c q h r le cl ll) = pfs c q h z le cl ll := by
  unfold pfs
  rw [put_in (by decide +kernel)]
  rw [put_in (by decide +kernel)]
  rw [put_in (by decide +kernel)]
  rw [put_at]
theorem pget_r (c : Addr) (q h r : Int) (le : Addr) (cl : Bool) (ll : Addr) : (pfs c q h r le cl ll).lookup ("_returned" : Str) = some (V.int r) := by
  unfold pfs
  rw [look_in (by decide +kernel)]
  rw [look_in (by decide +kernel)]
  rw [look_in (by decide +kernel)]
  rw [look_at]
theorem pset_le (c : Addr) (q h r : Int) (le : Addr) (cl : Bool) (ll : Addr) (z : Addr) : putF "_entered" (V.ref z) (pfs c q h r le cl ll) = pfs c q h r z cl ll := by
  unfold pfs
  rw [put_in (by decide +kernel)]
  rw [put_in (by decide +kernel)]
  rw [put_in (by decide +kernel)]
  rw [put_in (by decide +kernel)]
  rw [put_at]
theorem pget_le (c : Addr) (q h r : Int) (le : Addr) (cl : Bool) (ll : Addr) : (pfs c q h r le cl ll).lookup ("_entered" : Str) = some (V.ref le) := by
  unfold pfs
  rw [look_in (by decide +kernel)]
  rw [look_in (by decide +kernel)]
  rw [look_in (by decide +kernel)]
  rw [look_in (by decide +kernel)]
  rw [look_at]
theorem pset_cl (c : Addr) (q h r : Int) (le : Addr) (cl : Bool) (ll : Addr) (z : Bool) : putF "_was_closed" (V.bl z) (pfs c q h r le cl ll) = pfs c q h r le z ll := by
  unfold pfs
  rw [put_in (by decide +kernel)]
  rw [put_in (by decide +kernel)]
  rw [put_in (by decide +kernel)]
  rw [put_in (by decide +kernel)]
  rw [put_in (by decide +kernel)]
  rw [put_at]
theorem pget_cl (c : Addr) (q h r : Int) (le : Addr) (cl : Bool) (ll : Addr) : (pfs c q h r le cl ll).lookup ("_was_closed" : Str) = some (V.bl cl) := by
  unfold pfs
  rw [look_in (by decide +kernel)]
  rw [look_in (by decide +kernel)]
  rw [look_in (by decide +kernel)]
  rw [look_in (by decide +kernel)]
  rw [look_in (by decide +kernel)]
  rw [look_at]
theorem pset_ll (c : Addr) (q h r : Int) (le : Addr) (cl : Bool) (ll : Addr) (z : Addr) : putF "_limits" (V.ref z) (pfs c q h r le cl ll) = pfs c q h r le cl z := by
  unfold pfs
  rw [put_in (by decide +kernel)]
  rw [put_in (by decide +kernel)]
  rw [put_in (by decide +kernel)]
  rw [put_in (by decide +kernel)]
  rw [put_in (by decide +kernel)]
  rw [put_in (by decide +kernel)]
  rw [put_at]
theorem pget_ll (c : Addr) (q h r : Int) (le : Addr) (cl : Bool) (ll : Addr) : (pfs c q h r le cl ll).lookup ("_limits" : Str) = some (V.ref ll) := by
  unfold pfs
  rw [look_in (by decide +kernel)]
  rw [look_in (by decide +kernel)]
  rw [look_in (by decide +kernel)]
  rw [look_in (by decide +kernel)]
  rw [look_in (by decide +kernel)]
  rw [look_in (by decide +kernel)]
  rw [look_at]
theorem pno (c : Addr) (q h r : Int) (le : Addr) (cl : Bool) (ll : Addr) {m : Str} (h0 : (m == ("_curve" : Str)) = false) (h1 : (m == ("_queue" : Str)) = false) (h2 : (m == ("_held" : Str)) = false) (h3 : (m == ("_returned" : Str)) = false) (h4 : (m == ("_entered" : Str)) = false) (h5 : (m == ("_was_closed" : Str)) = false) (h6 : (m == ("_limits" : Str)) = false) : (pfs c q h r le cl ll).lookup m = none := by
  unfold pfs
  rw [look_in h0, look_in h1, look_in h2, look_in h3, look_in h4, look_in h5, look_in h6]
  rfl
theorem pfs_length (c : Addr) (q h r : Int) (le : Addr) (cl : Bool) (ll : Addr) : (pfs c q h r le cl ll).length = 7 := rfl
/-- a police at x: its own lists at le and ll, its curve's list at lc -/
structure PolAt (A : Ad) (H : Hp) (x c lc : Addr) (cs : List Int) (p g q h r : Int) (cl : Bool) (es : List Int) (dx le ll : Addr) : Prop where
  obj : H x = some (.ins A.Police dx (pfs c q h r le cl ll))
  cu : CuL A H c lc cs p g none
  n1 : lc ≠ le
  n2 : lc ≠ ll
  ncx : c ≠ x
  ent : H le = some (.lst (es.map V.int))
  lim : H ll = some (.lst ((row (fun s => cvAt cs p g (1 + s)) es.length).map V.int))
  two : le ≠ ll
theorem firstN_step {p : Nat → Bool} {k i : Nat} : firstN p (k + 1) i = if p i = true then some i else firstN p k (i + 1) := rfl
section
variable {A : Ad} {H H' : Hp} {x c lc : Addr} {cs : List Int} {p g q h r : Int} {cl : Bool} {es : List Int} {dx le ll : Addr}
theorem PolAt.crv (P : PolAt A H x c lc cs p g q h r cl es dx le ll) : CrvAt A H c cs p g := P.cu.cu.crv
theorem PolAt.same (P : PolAt A H x c lc cs p g q h r cl es dx le ll) (s : Same H H') : PolAt A H' x c lc cs p g q h r cl es dx le ll :=
  ⟨s _ _ P.obj, P.cu.same s, P.n1, P.n2, P.ncx, s _ _ P.ent, s _ _ P.lim, P.two⟩
theorem PolAt.ne (P : PolAt A H x c lc cs p g q h r cl es dx le ll) : le ≠ x ∧ ll ≠ x ∧ c ≠ le ∧ c ≠ ll := by
  obtain ⟨dc, w, b, hc, _⟩ := P.cu
  refine ⟨fun z => ?_, fun z => ?_, fun z => ?_, fun z => ?_⟩
  · have a := P.ent; rw [z, P.obj] at a; cases a
  · have a := P.lim; rw [z, P.obj] at a; cases a
  · have a := P.ent; rw [← z, hc] at a; cases a
  · have a := P.lim; rw [← z, hc] at a; cases a
theorem PolAt.but (P : PolAt A H x c lc cs p g q h r cl es dx le ll) (b : But c H H') (k : CuL A H' c lc cs p g none) : PolAt A H' x c lc cs p g q h r cl es dx le ll :=
  ⟨b _ _ (Ne.symm P.ncx) P.obj, k, P.n1, P.n2, P.ncx, b _ _ (Ne.symm P.ne.2.2.1) P.ent, b _ _ (Ne.symm P.ne.2.2.2) P.lim, P.two⟩
end
/-- the first window, by its length, that ends with the last tick and in which one more would be too many -/
def bindM (f : Int → Int) (us : List Int) : Option (Int × Int) :=
  (firstN (fun i => decide (f ((i : Int) + 1) < tl us (i + 1) + 1)) us.length 0).map fun i => ((i : Int) + 1, (us.length : Int) - ((i : Int) + 1))
/-- a pair as a value: None, or a new tuple -/
def Duo (H H' : Hp) (v : V) : Option (Int × Int) → Prop
  | none => v = .non
  | some (a, b) => ∃ t, v = .ref t ∧ H t = none ∧ H' t = some (.tup [.int a, .int b])
def sp_P_init (K : PySem.W.Frag) (A : Ad) : Sp := fun vs H Q E => ∃ (x dx c lc : Addr) (cs : List Int) (p g : Int) (o : Option (Int × Int)) (u : V) (n : String), vs = [.ref x, .ref c, u] ∧ H x = some (.ins A.Police dx []) ∧
  CuL A H c lc cs p g o ∧ 0 < p ∧ p ≤ cs.length ∧ cs.length ≤ 1000 ∧ BrkR (cvAt cs p g) cs.length o ∧ c ≠ x ∧ (∀ H', But c H H' → Kd K H' u n) ∧
  (∀ q : Int, o = none → u = .int q → 0 ≤ q → ∀ H' le ll, (∀ b v, b ≠ x → b ≠ c → H b = some v → H' b = some v) → H le = none → H ll = none → le ≠ ll → le ≠ x → ll ≠ x → PolAt A H' x c lc cs p g q 0 0 false [] dx le ll → Q .non H') ∧
  (o = none → cnt u = false → ∀ H', But c H H' → CuL A H' c lc cs p g o → BadV A.InvalidCount "value" u H' E) ∧ Refu A c lc cs p g H E o
def sp_P_held (_ : PySem.W.Frag) (A : Ad) : Sp := fun vs H Q _ => ∃ (x c : Addr) (q h r : Int) (cl : Bool) (dx le ll : Addr), vs = [.ref x] ∧ H x = some (.ins A.Police dx (pfs c q h r le cl ll)) ∧ Q (.int h) H
def sp_P_record (_ : PySem.W.Frag) (A : Ad) : Sp := fun vs H Q _ => ∃ (x c : Addr) (q h r : Int) (cl : Bool) (dx le ll : Addr) (es : List Int), vs = [.ref x] ∧ H x = some (.ins A.Police dx (pfs c q h r le cl ll)) ∧ H le = some (.lst (es.map V.int)) ∧
  ∀ H' u, Same H H' → H u = none → H' u = some (.lst (es.map V.int)) → Q (.ref u) H'
def sp_P_binding (_ : PySem.W.Frag) (A : Ad) : Sp := fun vs H Q _ => ∃ (x c lc : Addr) (cs : List Int) (p g q h r : Int) (cl : Bool) (es : List Int) (dx le ll : Addr), vs = [.ref x] ∧ PolAt A H x c lc cs p g q h r cl es dx le ll ∧
  0 < p ∧ p ≤ cs.length ∧ cs.length ≤ 1000 ∧ es.length ≤ 1000 ∧ ∀ H' v, Same H H' → Duo H H' v (if h = 0 ∨ cl = true then none else bindM (cvAt cs p g) es) → Q v H'
def sp_P_queue (_ : PySem.W.Frag) (A : Ad) : Sp := fun vs H Q _ => ∃ (x c : Addr) (q h r : Int) (cl : Bool) (dx le ll : Addr), vs = [.ref x] ∧ H x = some (.ins A.Police dx (pfs c q h r le cl ll)) ∧ Q (.int q) H
def sp_P_returned (_ : PySem.W.Frag) (A : Ad) : Sp := fun vs H Q _ => ∃ (x c : Addr) (q h r : Int) (cl : Bool) (dx le ll : Addr), vs = [.ref x] ∧ H x = some (.ins A.Police dx (pfs c q h r le cl ll)) ∧ Q (.int r) H
section
variable {P : Program} {w : World} {K : PySem.W.Frag} {mg : Str → Option Value} {base : Heap} {A : Ad}
theorem ok_P_init (T : Txt K mg A) : FnOk P w K mg base (L2.CX P w) 7 A.f_P_init A.d_P_init ["self", "curve", "queue"] (sp_P_init K A) := by
  have G_require_count := ok_require_count (P := P) (w := w) (base := base) T
  have G_require_good := ok_require_good (P := P) (w := w) (base := base) T
  refine T.F_P_init.okX sc_P_init (fun vs H Q E h => ?_) (fun cdv A0 outer s H vs Q E hr h => ?_)
  · obtain ⟨x, dx, c, lc, cs, p, g, o, u, n, rfl, hx, hC, hp, hpn, hn, hB, ncx, hK, k, kc, ke⟩ := h
    rfl
  · obtain ⟨x, dx, c, lc, cs, p, g, o, u, n, rfl, hx, hC, hp, hpn, hn, hB, ncx, hK, k, kc, ke⟩ := h
    refine ⟨_, (pss_cons (ps_expr (pe_call G_require_good (hr.mono (by decide)) rfl T.m_require_good T.k_require_good T.b_require_good .nil (passes_call (takes_of rfl rfl rfl rfl) (fun _ _ _ _ h => h)) (pa_cons (pv 1) pa_nil)))
    (pss_cons (ps_expr (pe_call G_require_count (hr.mono (by decide)) rfl T.m_require_count T.k_require_count T.b_require_count .nil (passes_call (takes_of rfl rfl rfl rfl) (fun _ _ _ _ h => h)) (pa_cons (pv 2) pa_nil)))
    (pss_cons (ps_fld (pv 0) (pv 1) rfl)
    (pss_cons (ps_fld (pv 0) (pv 2) rfl)
    (pss_cons (ps_fld (pv 0) pe_int rfl)
    (pss_cons (ps_fld (pv 0) pe_int rfl)
    (pss_cons (ps_fld (pv 0) (pe_lst pa_nil) rfl)
    (pss_cons (ps_fld (pv 0) pe_bl rfl)
    (pss_one (ps_fld (pv 0) (pe_lst pa_nil) rfl)))))))))), ?_⟩
    refine ⟨_, rfl, c, lc, cs, p, g, o, rfl, hC, hp, hpn, hn, hB, fun z H1 s1 cu1 => ?_, ke⟩
    have hx1 := s1 _ _ (Ne.symm ncx) hx
    refine ⟨_, rfl, u, n, rfl, hK _ s1, fun e1 => ?_, fun e1 => kc z e1 H1 s1 cu1⟩
    obtain ⟨q, rfl, hq⟩ : ∃ q : Int, u = .int q ∧ 0 ≤ q := by
      cases u <;> first | exact ⟨_, rfl, of_decide_eq_true e1⟩ | cases e1
    subst z
    refine ⟨_, rfl, _, rfl, x, _, dx, _, rfl, hx1, T.clPolice, T.n_curve, (by show 0 < 1000; decide), ?_⟩
    rw [pput0]
    refine ⟨_, rfl, _, rfl, x, _, dx, _, rfl, upd_same, T.clPolice, T.n_queue, (by show 1 < 1000; decide), ?_⟩
    rw [pput1]
    refine ⟨_, rfl, x, _, dx, _, rfl, upd_same, T.clPolice, T.n_held, (by show 2 < 1000; decide), ?_⟩
    rw [pput2]
    refine ⟨_, rfl, x, _, dx, _, rfl, upd_same, T.clPolice, T.n_returned, (by show 3 < 1000; decide), ?_⟩
    rw [pput3]
    refine ⟨(by show 0 ≤ sizeLine; decide), fun le hle => ?_⟩
    have nle : le ≠ x := fun z => by rw [z, upd_same] at hle; cases hle
    refine ⟨_, rfl, x, _, dx, _, rfl, (upd_ne (Ne.symm nle)).trans upd_same, T.clPolice, T.n_entered, (by show 4 < 1000; decide), ?_⟩
    rw [pput4]
    refine ⟨_, rfl, x, _, dx, _, rfl, upd_same, T.clPolice, T.n_was_closed, (by show 5 < 1000; decide), ?_⟩
    rw [pput5]
    refine ⟨(by show 0 ≤ sizeLine; decide), fun ll hll => ?_⟩
    have nll : ll ≠ x := fun z => by rw [z, upd_same] at hll; cases hll
    have nel : le ≠ ll := fun z => by rw [← z, upd_ne nle, upd_ne nle, upd_same] at hll; cases hll
    refine ⟨_, rfl, x, _, dx, _, rfl, (upd_ne (Ne.symm nll)).trans upd_same, T.clPolice, T.n_limits, (by show 6 < 1000; decide), ?_⟩
    rw [pput6]
    have hle0 : H1 le = none := by
      rw [upd_ne nle, upd_ne nle, upd_ne nle, upd_ne nle] at hle; exact hle
    have hll0 : H1 ll = none := by
      rw [upd_ne nll, upd_ne nll, upd_ne (Ne.symm nel), upd_ne nll, upd_ne nll, upd_ne nll, upd_ne nll] at hll; exact hll
    have keep : ∀ b o, b ≠ x → H1 b = some o → ∀ o1 o2 o3 o4 o5 o6 o7 o8 o9, upd (upd (upd (upd (upd (upd (upd (upd (upd H1 x o1) x o2) x o3) x o4) le o5) x o6) x o7) ll o8) x o9 b = some o := by
      intro b o hb e o1 o2 o3 o4 o5 o6 o7 o8 o9
      rw [upd_ne hb, upd_ne (ne_of_none e hll0), upd_ne hb, upd_ne hb, upd_ne (ne_of_none e hle0), upd_ne hb, upd_ne hb, upd_ne hb, upd_ne hb]
      exact e
    obtain ⟨dc, w0, b0, c1, c2, c3⟩ := cu1
    have nlc : lc ≠ x := fun z => by rw [z, hx1] at c2; cases c2
    have fr : ∀ b, b ≠ x → H1 b = none → H b = none := fun b nb e => by
      cases e2 : H b with
      | none => rfl
      | some v =>
        by_cases zc : b = c
        · rw [zc, c1] at e; cases e
        · rw [s1 _ _ zc e2] at e; cases e
    refine k q rfl rfl hq _ le ll (fun b v hb nc e => keep b v hb (s1 b v nc e) _ _ _ _ _ _ _ _ _) (fr _ nle hle0) (fr _ nll hll0) nel nle nll ⟨upd_same, ⟨dc, w0, b0, keep _ _ ncx c1 _ _ _ _ _ _ _ _ _, keep _ _ nlc c2 _ _ _ _ _ _ _ _ _, c3⟩, ne_of_none c2 hle0, ne_of_none c2 hll0, ncx, ?_, ?_, nel⟩
    · rw [upd_ne nle, upd_ne nel, upd_ne nle, upd_ne nle, upd_same]; rfl
    · rw [upd_ne nll, upd_same]; rfl
theorem ok_P_held (T : Txt K mg A) : FnOk P w K mg base CX0 1 A.f_P_held A.d_P_held ["self"] (sp_P_held K A) := by
  refine T.F_P_held.ok sc_P_held (fun vs H Q E h => ?_) (fun cdv A0 outer s H vs Q E hr h => ?_)
  · obtain ⟨x, c, q, h, r, cl, dx, le, ll, rfl, hx, k⟩ := h
    rfl
  · obtain ⟨x, c, q, h, r, cl, dx, le, ll, rfl, hx, k⟩ := h
    refine ⟨_, (pss_one (ps_ret (pe_fld (pv 0) rfl))), ?_⟩
    exact ⟨_, rfl, x, _, dx, _, _, rfl, hx, T.clPolice, T.n_held, pget_h _ _ _ _ _ _ _, k⟩
theorem ok_P_record (T : Txt K mg A) : FnOk P w K mg base CX0 1 A.f_P_record A.d_P_record ["self"] (sp_P_record K A) := by
  refine T.F_P_record.ok sc_P_record (fun vs H Q E h => ?_) (fun cdv A0 outer s H vs Q E hr h => ?_)
  · obtain ⟨x, c, q, h, r, cl, dx, le, ll, es, rfl, hx, he, k⟩ := h
    rfl
  · obtain ⟨x, c, q, h, r, cl, dx, le, ll, es, rfl, hx, he, k⟩ := h
    refine ⟨_, (pss_one (ps_ret (pe_callTy (r := VG.rListOf K) VG.call_listOf (by rfl) T.list (by decide +kernel) (pa_cons (pe_fld (pv 0) rfl) pa_nil)))), ?_⟩
    refine ⟨_, rfl, x, _, dx, _, _, rfl, hx, T.clPolice, T.n_entered, pget_le _ _ _ _ _ _ _, le, _, rfl, .inl (SqL.of he), fun u hu => ?_⟩
    exact k _ u (Same.upd (Same.refl _) hu) hu upd_same
theorem ok_P_queue (T : Txt K mg A) : FnOk P w K mg base CX0 1 A.f_P_queue A.d_P_queue ["self"] (sp_P_queue K A) := by
  refine T.F_P_queue.ok sc_P_queue (fun vs H Q E h => ?_) (fun cdv A0 outer s H vs Q E hr h => ?_)
  · obtain ⟨x, c, q, h, r, cl, dx, le, ll, rfl, hx, k⟩ := h
    rfl
  · obtain ⟨x, c, q, h, r, cl, dx, le, ll, rfl, hx, k⟩ := h
    refine ⟨_, (pss_one (ps_ret (pe_fld (pv 0) rfl))), ?_⟩
    exact ⟨_, rfl, x, _, dx, _, _, rfl, hx, T.clPolice, T.n_queue, pget_q _ _ _ _ _ _ _, k⟩
theorem ok_P_returned (T : Txt K mg A) : FnOk P w K mg base CX0 1 A.f_P_returned A.d_P_returned ["self"] (sp_P_returned K A) := by
  refine T.F_P_returned.ok sc_P_returned (fun vs H Q E h => ?_) (fun cdv A0 outer s H vs Q E hr h => ?_)
  · obtain ⟨x, c, q, h, r, cl, dx, le, ll, rfl, hx, k⟩ := h
    rfl
  · obtain ⟨x, c, q, h, r, cl, dx, le, ll, rfl, hx, k⟩ := h
    refine ⟨_, (pss_one (ps_ret (pe_fld (pv 0) rfl))), ?_⟩
    exact ⟨_, rfl, x, _, dx, _, _, rfl, hx, T.clPolice, T.n_returned, pget_r _ _ _ _ _ _ _, k⟩
theorem ok_P_binding (T : Txt K mg A) : FnOk P w K mg base CX0 4 A.f_P_binding A.d_P_binding ["self"] (sp_P_binding K A) := by
  have G_C_at := ok_C_at (P := P) (w := w) (base := base) T
  refine T.F_P_binding.ok sc_P_binding (fun vs H Q E h => ?_) (fun cdv A0 outer s H vs Q E hr h => ?_)
  · obtain ⟨x, c, lc, cs, p, g, q, h, r, cl, es, dx, le, ll, rfl, PA, hp, hpn, hn, hes, k⟩ := h
    rfl
  · obtain ⟨x, c, lc, cs, p, g, q, h, r, cl, es, dx, le, ll, rfl, PA, hp, hpn, hn, hes, k⟩ := h
    refine ⟨_, (pss_cons (ps_if (PW.pt (pw_or (pt_cmpR op_eq (pe_fld (pv 0) rfl) pe_int (nomark _)) (pw_or1 (pt_val (pe_fld (pv 0) rfl))))) (pss_one (ps_ret pe_non)) pss_nil)
    (pss_cons (ps_set (i := 1) sc_P_binding.nd rfl (by first | exact Or.inl rfl | exact Or.inr rfl) pe_int)
    (pss_cons (ps_for PassesOwn.never rfl (VE.pi_enumRev (by decide) (by decide) (by rfl) T.enumerate (by rfl) T.reversed (pa_cons (pe_fld (pv 0) rfl) pa_nil)) (pg_tup rfl (pgs_cons (pg_name (i := 2) sc_P_binding.nd rfl (by first | exact Or.inl rfl | exact Or.inr rfl)) (pgs_cons (pg_name (i := 3) sc_P_binding.nd rfl (by first | exact Or.inl rfl | exact Or.inr rfl)) pgs_nil)))
      (pss_cons (ps_aug (i := 1) sc_P_binding.nd rfl (.inl rfl) (pv 3) ip_add)
    (pss_one (ps_if (pt_cmpR op_gt (pe_op op_add (pv 1) pe_int) (pe_meth (pe_fld (pv 0) rfl) T.cl T.me_at G_C_at (hr.mono (by decide)) T.b_C_at .nil pass0 (pa_cons (pv 2) pa_nil)) (nomark _)) (pss_one (ps_ret (pe_tup (pa_cons (pv 2) (pa_cons (pe_op op_sub (pe_callB (r := VG.rLen K) VG.call_len (by rfl) T.len (by decide +kernel) (pa_cons (pe_fld (pv 0) rfl) pa_nil)) (pv 2)) pa_nil))))) pss_nil))))
    (pss_one (ps_ret pe_non))))), ?_⟩
    have hx := PA.obj
    refine ⟨_, rfl, x, _, dx, _, _, rfl, hx, T.clPolice, T.n_held, pget_h _ _ _ _ _ _ _, rfl, _, rfl, ifEq (fun z => ?_) (fun z => ?_)⟩
    · rw [if_pos (Or.inl z)] at k
      exact k H _ (Same.refl H) rfl
    refine ⟨_, rfl, x, _, dx, _, _, rfl, hx, T.clPolice, T.n_was_closed, pget_cl _ _ _ _ _ _ _, _, rfl, ?_⟩
    cases cl with
    | true =>
      refine iteT ?_
      rw [if_pos (Or.inr rfl)] at k
      exact k H _ (Same.refl H) rfl
    | false =>
      refine iteF ?_
      rw [if_neg (fun y => by rcases y with y | y; exact z y; cases y)] at k
      obtain ⟨dc, w0, b0, hc, hlc, _⟩ := id PA.cu
      refine ⟨_, rfl, x, _, dx, _, _, rfl, hx, T.clPolice, T.n_entered, pget_le _ _ _ _ _ _ _, le, _, rfl, SqL.of PA.ent, for_it (VE.walk_enumRev (K := K) (a := le) (xs := es.map V.int) (k := 1)) (fun i σ H' => ∃ v2 v3, σ = [some (.ref x), some (.int (tl es i)), v2, v3] ∧ Same H H' ∧
          firstN (fun i => decide (cvAt cs p g ((i : Int) + 1) < tl es (i + 1) + 1)) es.length 0 = firstN (fun i => decide (cvAt cs p g ((i : Int) + 1) < tl es (i + 1) + 1)) (es.length - i) i)
        ⟨_, _, by rw [tl_zero]; rfl, Same.refl H, rfl⟩ (fun i σ H' _ ⟨_, _, _, s0, _⟩ => s0.seq (SqL.of PA.ent)) ?_ ?_⟩
      · rintro i y σ H' H2 hi ⟨v2, v3, rfl, s0, e⟩ ⟨t, a, b, rfl, ht, rfl, ea, eb⟩
        rw [List.length_map] at hi
        obtain ⟨hi', rfl⟩ := nth_map eb
        cases ea
        have s2 : Same H (upd H' t (.tup [.int (1 + (i : Nat)), .int (es.getD ((es.map V.int).length - 1 - i) 0)])) := Same.upd s0 (s0.free ht)
        refine ⟨t, _, rfl, SqT.of upd_same, rfl, _, _, rfl, _, _, rfl, rfl, ?_⟩
        have es1 := tl_step (us := es) (k := i) hi
        rw [show es.length - i = (es.length - (i + 1)) + 1 by omega, firstN_step] at e
        refine ⟨_, rfl, _, rfl, _, _, rfl, rfl, ?_⟩
        rw [List.length_map] at s2 ⊢
        simp only []
        rw [← es1]
        refine ⟨_, rfl, _, _, rfl, rfl, _, rfl, x, _, dx, _, _, rfl, s2 _ _ hx, T.clPolice, T.n_curve, pget_c _ _ _ _ _ _ _, c, dc, _, rfl, s2 _ _ hc, cfs_no _ _ _ (by decide +kernel) (by decide +kernel) (by decide +kernel), _, rfl, c, cs, p, g, _, rfl, PA.crv.same s2, hp, hpn, hn, by omega, by omega, _, _, rfl, rfl, _, rfl, ifD (fun cc => ?_) (fun cc => ?_)⟩
        · rw [if_pos (decide_eq_true (by rw [show (i : Int) + 1 = 1 + i by omega]; exact cc))] at e
          refine ⟨_, rfl, _, rfl, x, _, dx, _, _, rfl, s2 _ _ hx, T.clPolice, T.n_entered, pget_le _ _ _ _ _ _ _, le, _, rfl, .inl (SqL.of (s2 _ _ PA.ent)), _, rfl, _, _, rfl, rfl, (by show 2 ≤ sizeLine; decide), fun t2 ht2 => ?_⟩
          refine k _ _ (Same.upd s2 (s2.free ht2)) ?_
          unfold bindM
          rw [e]
          refine ⟨t2, rfl, s2.free ht2, ?_⟩
          rw [upd_same, List.length_map, show (i : Int) + 1 = 1 + i by omega]
        · rw [if_neg (fun q => cc (by have := of_decide_eq_true q; rw [show 1 + (i : Int) = (i : Int) + 1 by omega]; exact this))] at e
          exact ⟨_, _, rfl, s2, e⟩
      · rintro σ H' ⟨v2, v3, rfl, s0, e⟩
        refine k H' _ s0 ?_
        unfold bindM
        rw [e, List.length_map, Nat.sub_self]
        rfl
end
end VK


namespace VK
open PySem PySem.Spec PyProof.Rows L2 VM
/-- how many enter in a tick -/
def stE (f : Int → Int) (es : List Int) (h u k : Int) (cz : Bool) : Int := if cz = true then 0 else min (h + u) (max 0 (freeM f es) + k)
def sp_P_step (K : PySem.W.Frag) (A : Ad) : Sp := fun vs H Q E => ∃ (x c lc : Addr) (cs : List Int) (p g q h r : Int) (cl : Bool) (es : List Int) (dx le ll : Addr) (u0 k0 : V) (cz : Bool) (m1 m2 : String), vs = [.ref x, u0, k0, .bl cz] ∧
  PolAt A H x c lc cs p g q h r cl es dx le ll ∧ 0 < p ∧ p ≤ cs.length ∧ cs.length ≤ 1000 ∧ es.length ≤ 900 ∧ Kd K H u0 m1 ∧ Kd K H k0 m2 ∧
  (∀ u k : Int, u0 = .int u → k0 = .int k → 0 ≤ u → 0 ≤ k → ∀ H' t, (∀ b o, b ≠ x → b ≠ le → b ≠ ll → H b = some o → H' b = some o) → H t = none →
    H' t = some (.tup [.int (stE (cvAt cs p g) es h u k cz), .int (h + u - stE (cvAt cs p g) es h u k cz - min (h + u - stE (cvAt cs p g) es h u k cz) q)]) →
    PolAt A H' x c lc cs p g q (min (h + u - stE (cvAt cs p g) es h u k cz) q) (r + (h + u - stE (cvAt cs p g) es h u k cz - min (h + u - stE (cvAt cs p g) es h u k cz) q)) cz (es ++ [stE (cvAt cs p g) es h u k cz]) dx le ll → Q (.ref t) H') ∧
  (cnt u0 = false → BadV A.InvalidCount "value" u0 H E) ∧ (cnt u0 = true → cnt k0 = false → BadV A.InvalidCount "value" k0 H E)
section
variable {P : Program} {w : World} {K : PySem.W.Frag} {mg : Str → Option Value} {base : Heap} {A : Ad}
theorem min_if {a b : Int} : (if b < a then b else a) = min a b := by split <;> omega
theorem ok_P_step (T : Txt K mg A) : FnOk P w K mg base (L2.CX P w) 5 A.f_P_step A.d_P_step ["self", "units", "leak", "closed"] (sp_P_step K A) := by
  have G_C_at := ok_C_at (P := P) (w := w) (base := base) T
  have G_free_after := ok_free_after (P := P) (w := w) (base := base) T
  have G_require_count := ok_require_count (P := P) (w := w) (base := base) T
  refine T.F_P_step.okX sc_P_step (fun vs H Q E h => ?_) (fun cdv A0 outer s H vs Q E hr h => ?_)
  · obtain ⟨x, c, lc, cs, p, g, q, h, r, cl, es, dx, le, ll, u0, k0, cz, m1, m2, rfl, PA, hp, hpn, hn, hes, hK1, hK2, kk, kb1, kb2⟩ := h
    rfl
  · obtain ⟨x, c, lc, cs, p, g, q, h, r, cl, es, dx, le, ll, u0, k0, cz, m1, m2, rfl, PA, hp, hpn, hn, hes, hK1, hK2, kk, kb1, kb2⟩ := h
    refine ⟨_, (pss_cons (ps_expr (pe_call G_require_count (hr.mono (by decide)) rfl T.m_require_count T.k_require_count T.b_require_count .nil (passes_call (takes_of rfl rfl rfl rfl) (fun _ _ _ _ h => h)) (pa_cons (pv 1) pa_nil)))
    (pss_cons (ps_expr (pe_call G_require_count (hr.mono (by decide)) rfl T.m_require_count T.k_require_count T.b_require_count .nil (passes_call (takes_of rfl rfl rfl rfl) (fun _ _ _ _ h => h)) (pa_cons (pv 2) pa_nil)))
    (pss_cons (ps_expr (pe_bm PySem.F.plainAttrs_list PySem.F.slot_list_append PySem.F.type_list_append mt_append (pe_fld (pv 0) rfl) (pa_cons (pe_meth (pe_fld (pv 0) rfl) T.cl T.me_at G_C_at (hr.mono (by decide)) T.b_C_at .nil pass0 (pa_cons (pe_op op_add (pe_callB (r := VG.rLen K) VG.call_len (by rfl) T.len (by decide +kernel) (pa_cons (pe_fld (pv 0) rfl) pa_nil)) pe_int) pa_nil)) pa_nil)))
    (pss_cons (ps_set (i := 4) sc_P_step.nd rfl (by first | exact Or.inl rfl | exact Or.inr rfl) (pe_op op_add (pe_fld (pv 0) rfl) (pv 1)))
    (pss_cons (ps_set (i := 5) sc_P_step.nd rfl (by first | exact Or.inl rfl | exact Or.inr rfl) pe_int)
    (VG.pss_join (ps_if (pt_not (pt_val (pv 3))) (pss_cons (ps_set (i := 6) sc_P_step.nd rfl (by first | exact Or.inl rfl | exact Or.inr rfl) (pe_callB (call_max2 rfl) (by rfl) T.max (by decide +kernel) (pa_cons pe_int (pa_cons (pe_call G_free_after (hr.mono (by decide)) rfl T.m_free_after T.k_free_after T.b_free_after .nil pass0 (pa_cons (pe_fld (pv 0) rfl) (pa_cons (pe_fld (pv 0) rfl) pa_nil))) pa_nil))))
    (pss_one (ps_set (i := 5) sc_P_step.nd rfl (by first | exact Or.inl rfl | exact Or.inr rfl) (pe_callB (call_min2 rfl) (by rfl) T.min (by decide +kernel) (pa_cons (pv 4) (pa_cons (pe_op op_add (pv 6) (pv 2)) pa_nil)))))) pss_nil)
    (pss_cons (ps_set (i := 7) sc_P_step.nd rfl (by first | exact Or.inl rfl | exact Or.inr rfl) (pe_op op_sub (pv 4) (pv 5)))
    (pss_cons (ps_fld (pv 0) (pe_callB (call_min2 rfl) (by rfl) T.min (by decide +kernel) (pa_cons (pv 7) (pa_cons (pe_fld (pv 0) rfl) pa_nil))) rfl)
    (pss_cons (ps_set (i := 8) sc_P_step.nd rfl (by first | exact Or.inl rfl | exact Or.inr rfl) (pe_op op_sub (pv 7) (pe_fld (pv 0) rfl)))
    (pss_cons (ps_fldaug (pv 0) (pv 8) in_add)
    (pss_cons (ps_expr (pe_bm PySem.F.plainAttrs_list PySem.F.slot_list_append PySem.F.type_list_append mt_append (pe_fld (pv 0) rfl) (pa_cons (pv 5) pa_nil)))
    (pss_cons (ps_fld (pv 0) (pv 3) rfl)
    (pss_one (ps_ret (pe_tup (pa_cons (pv 5) (pa_cons (pv 8) pa_nil))))))))))))))))), ?_⟩
    refine ⟨_, rfl, u0, m1, rfl, hK1, fun e1 => ?_, fun e1 => kb1 e1⟩
    refine ⟨_, rfl, k0, m2, rfl, hK2, fun e2 => ?_, fun e2 => kb2 e1 e2⟩
    obtain ⟨u, rfl, hu⟩ : ∃ q : Int, u0 = .int q ∧ 0 ≤ q := by
      cases u0 <;> first | exact ⟨_, rfl, of_decide_eq_true e1⟩ | cases e1
    obtain ⟨k, rfl, hk⟩ : ∃ q : Int, k0 = .int q ∧ 0 ≤ q := by
      cases k0 <;> first | exact ⟨_, rfl, of_decide_eq_true e2⟩ | cases e2
    have kk := kk u k rfl rfl hu hk
    obtain ⟨dc, wc, bc, hc, hlc, hcv⟩ := id PA.cu
    have n1 := PA.n1
    have n2 := PA.n2
    have ncx := PA.ncx
    obtain ⟨nle, nll, nce, ncl⟩ := PA.ne
    have hx := PA.obj
    have two := PA.two
    have nlx : lc ≠ x := fun z => by rw [z, hx] at hlc; cases hlc
    refine ⟨_, rfl, x, _, dx, _, _, rfl, hx, T.clPolice, T.n_limits, pget_ll _ _ _ _ _ _ _, .inl ⟨rfl, _, SqL.of PA.lim⟩, _, rfl, x, _, dx, _, _, rfl, hx, T.clPolice, T.n_curve, pget_c _ _ _ _ _ _ _, c, dc, _, rfl, hc, cfs_no _ _ _ (by decide +kernel) (by decide +kernel) (by decide +kernel),
      _, rfl, x, _, dx, _, _, rfl, hx, T.clPolice, T.n_entered, pget_le _ _ _ _ _ _ _, le, _, rfl, .inl (SqL.of PA.ent), _, _, rfl, rfl, c, cs, p, g, _, rfl, PA.crv, hp, hpn, hn, by omega, by rw [List.length_map]; omega, ll, _, _, rfl, rfl, PA.lim, small (by rw [List.length_map, row_length]; omega), ?_⟩
    have hl1 : upd H ll (.lst ((row (fun s => cvAt cs p g (1 + s)) es.length).map V.int ++ [V.int (cvAt cs p g (((es.map V.int).length : Int) + 1))])) ll = some (.lst ((row (fun s => cvAt cs p g (1 + s)) (es.length + 1)).map V.int)) := by
      rw [upd_same, rowI_succ, List.length_map, show (es.length : Int) + 1 = 1 + es.length by omega]
    have k1 : ∀ b o, b ≠ ll → H b = some o → upd H ll (.lst ((row (fun s => cvAt cs p g (1 + s)) es.length).map V.int ++ [V.int (cvAt cs p g (((es.map V.int).length : Int) + 1))])) b = some o := fun b o hb e => (upd_ne hb).trans e
    have f1 : ∀ b, upd H ll (.lst ((row (fun s => cvAt cs p g (1 + s)) es.length).map V.int ++ [V.int (cvAt cs p g (((es.map V.int).length : Int) + 1))])) b = none → H b = none := fun b e => by
      by_cases z : b = ll
      · rw [z, upd_same] at e; cases e
      · rw [upd_ne z] at e; exact e
    generalize upd H ll (.lst ((row (fun s => cvAt cs p g (1 + s)) es.length).map V.int ++ [V.int (cvAt cs p g (((es.map V.int).length : Int) + 1))])) = H1 at *
    have hx1 := k1 _ _ (Ne.symm nll) hx
    have he1 := k1 _ _ two PA.ent
    refine ⟨_, rfl, x, _, dx, _, _, rfl, hx1, T.clPolice, T.n_held, pget_h _ _ _ _ _ _ _, _, rfl, _, _, rfl, rfl, ?_⟩
    refine ⟨fun σ' H2 => ∃ v6, σ' = [some (.ref x), some (.int u), some (.int k), some (.bl cz), some (.int (h + u)), some (.int (stE (cvAt cs p g) es h u k cz)), v6, none, none] ∧ Same H1 H2, ?_, ?_⟩
    · refine ⟨_, rfl, _, rfl, ?_⟩
      cases cz with
      | true => exact iteF ⟨_, rfl, Same.refl _⟩
      | false =>
        refine iteT ?_
        refine ⟨_, rfl, x, _, dx, _, _, rfl, hx1, T.clPolice, T.n_entered, pget_le _ _ _ _ _ _ _, _, rfl, x, _, dx, _, _, rfl, hx1, T.clPolice, T.n_limits, pget_ll _ _ _ _ _ _ _, le, ll, es, cvAt cs p g, es.length + 1, rfl, SqL.of he1, SqL.of hl1, by omega, by omega, fun H2 s2 => ⟨_, _, rfl, ?_⟩⟩
        refine ⟨_, rfl, _, rfl, _, rfl, _, _, rfl, rfl, _, _, rfl, ?_⟩
        refine ⟨some (.int (max 0 (freeM (cvAt cs p g) es))), ?_, s2⟩
        have e1 : (if freeM (cvAt cs p g) es > 0 then freeM (cvAt cs p g) es else 0) = max 0 (freeM (cvAt cs p g) es) := by split <;> omega
        rw [e1, min_if]
        rfl
    rintro σ' H2 ⟨v6, rfl, s2⟩
    generalize he : stE (cvAt cs p g) es h u k cz = e at *
    have hx2 := s2 _ _ hx1
    have hle2 := s2 _ _ he1
    have hll2 := s2 _ _ hl1
    refine ⟨_, rfl, _, rfl, _, _, rfl, rfl, ?_⟩
    refine ⟨_, rfl, _, rfl, x, _, dx, _, _, rfl, hx2, T.clPolice, T.n_queue, pget_q _ _ _ _ _ _ _, _, _, rfl, _, rfl, x, _, dx, _, rfl, hx2, T.clPolice, T.n_held, (by show 7 < 1000; decide), ?_⟩
    rw [min_if, pset_h]
    refine ⟨_, rfl, _, rfl, x, _, dx, _, _, rfl, upd_same, T.clPolice, T.n_held, pget_h _ _ _ _ _ _ _, _, _, rfl, rfl, ?_⟩
    refine ⟨_, rfl, x, _, dx, _, _, rfl, upd_same, T.clPolice, T.n_returned, pget_r _ _ _ _ _ _ _, _, rfl, _, _, rfl, rfl, dx, _, upd_same, (by show 7 < 1000; decide), ?_⟩
    rw [pset_r]
    refine ⟨_, rfl, x, _, dx, _, _, rfl, upd_same, T.clPolice, T.n_entered, pget_le _ _ _ _ _ _ _, .inl ⟨rfl, _, SqL.of ((upd_ne nle).trans ((upd_ne nle).trans hle2))⟩, _, rfl, le, _, _, rfl, rfl, (upd_ne nle).trans ((upd_ne nle).trans hle2), small (by rw [List.length_map]; omega), ?_⟩
    refine ⟨_, rfl, _, rfl, x, _, dx, _, rfl, (upd_ne (Ne.symm nle)).trans upd_same, T.clPolice, T.n_was_closed, (by show 7 < 1000; decide), ?_⟩
    rw [pset_cl]
    refine ⟨_, rfl, _, rfl, (by show 2 ≤ sizeLine; decide), fun t ht => ?_⟩
    have ntx : t ≠ x := fun z => by rw [z, upd_same] at ht; cases ht
    rw [upd_ne ntx] at ht
    have ntl : t ≠ le := fun z => by rw [z, upd_same] at ht; cases ht
    rw [upd_ne ntl, upd_ne ntx, upd_ne ntx] at ht
    have ht0 : H t = none := f1 _ (s2.free ht)
    have ntL : ll ≠ t := fun z => by rw [← z, hll2] at ht; cases ht
    refine kk _ t (fun b o b1 b2 b3 e0 => ?_) ht0 upd_same ⟨?_, ⟨dc, wc, bc, ?_, ?_, hcv⟩, n1, n2, ncx, ?_, ?_, two⟩
    · have e2 := s2 _ _ (k1 _ _ b3 e0)
      rw [upd_ne (ne_of_none e2 ht), upd_ne b1, upd_ne b2, upd_ne b1, upd_ne b1]; exact e2
    · rw [upd_ne (Ne.symm ntx), upd_same]
    · have e2 := s2 _ _ (k1 _ _ ncl hc)
      rw [upd_ne (ne_of_none e2 ht), upd_ne ncx, upd_ne nce, upd_ne ncx, upd_ne ncx]; exact e2
    · have e2 := s2 _ _ (k1 _ _ n2 hlc)
      rw [upd_ne (ne_of_none e2 ht), upd_ne nlx, upd_ne n1, upd_ne nlx, upd_ne nlx]; exact e2
    · rw [upd_ne (Ne.symm ntl), upd_ne nle, upd_same, List.map_append]; rfl
    · rw [upd_ne ntL, upd_ne nll, upd_ne (Ne.symm two), upd_ne nll, upd_ne nll, hll2, List.length_append]; rfl
end
end VK


namespace VK
open PySem PySem.Spec PyProof.Rows L2 VM
/-- the state of draws at r -/
def Rng (H : Hp) (r : Addr) : Prop := ∃ a b : Int, H r = some (.lst [.int a, .int b]) ∧ 0 ≤ a ∧ 0 ≤ b ∧ b < 2147483563
/-- all but the state of draws stands -/
structure Ext (r : Addr) (H H' : Hp) : Prop where
  keep : ∀ b o, b ≠ r → H b = some o → H' b = some o
  rng : Rng H' r
theorem Ext.refl {r : Addr} {H : Hp} (h : Rng H r) : Ext r H H := ⟨fun _ _ _ e => e, h⟩
theorem Ext.trans {r : Addr} {H H1 H2 : Hp} (a : Ext r H H1) (b : Ext r H1 H2) : Ext r H H2 := ⟨fun c o n e => b.keep c o n (a.keep c o n e), b.rng⟩
theorem Rng.same {r : Addr} {H H' : Hp} (h : Rng H r) (s : Same H H') : Rng H' r := by
  obtain ⟨a, b, e, h1, h2, h3⟩ := h
  exact ⟨a, b, s _ _ e, h1, h2, h3⟩
theorem Ext.of {r : Addr} {H H' : Hp} (h : Rng H r) (s : Same H H') : Ext r H H' := ⟨fun b o _ e => s b o e, h.same s⟩
theorem Ext.same {r : Addr} {H H1 H2 : Hp} (a : Ext r H H1) (s : Same H1 H2) : Ext r H H2 := a.trans (.of a.rng s)
theorem Ext.free {r : Addr} {H H' : Hp} {l : Addr} (e : Ext r H H') (h : H' l = none) : H l = none := by
  have n : l ≠ r := fun z => by
    obtain ⟨a, b, q, _⟩ := e.rng
    rw [z, q] at h; cases h
  cases q : H l with
  | none => rfl
  | some o => rw [e.keep l o n q] at h; cases h
theorem Ext.seq {K : PySem.W.Frag} {r : Addr} {H H' : Hp} {a : Addr} {xs : List V} (e : Ext r H H') (n : a ≠ r) (h : SqL K H a xs) : SqL K H' a xs := by
  rcases h with (h | ⟨o, h⟩) | h
  · exact .inl (.inl (e.keep _ _ n h))
  · exact .inl (.inr ⟨o, e.keep _ _ n h⟩)
  · exact .inr h
theorem Rng.ne {r l : Addr} {H : Hp} (h : Rng H r) (hl : H l = none) : l ≠ r := fun z => by
  obtain ⟨a, b, q, _⟩ := h
  rw [z, q] at hl; cases hl
def sp_l_rng (K : PySem.W.Frag) (_ : Ad) : Sp := fun vs H Q _ => ∃ (a : Addr) (ns : List Int) (k : Int), vs = [.ref a, .int k] ∧ SqL K H a (ns.map V.int) ∧ 0 ≤ k ∧ k ≤ 100 ∧
  ∀ H' p, Same H H' → H p = none → Rng H' p → Q (.ref p) H'
def sp_l_draw (_ : PySem.W.Frag) (_ : Ad) : Sp := fun vs H Q _ => ∃ (r : Addr) (m : Int), vs = [.ref r, .int m] ∧ Rng H r ∧ 0 < m ∧ m < 1073741824 ∧
  ∀ H' d, Ext r H H' → 0 ≤ d → d < m → Q (.int d) H'
def sp_l_choice (K : PySem.W.Frag) (_ : Ad) : Sp := fun vs H Q _ => ∃ (r l : Addr) (ys : List V), vs = [.ref r, .ref l] ∧ Rng H r ∧ SqL K H l ys ∧ l ≠ r ∧ 0 < ys.length ∧ ys.length < 1000000 ∧
  ∀ H' v, Ext r H H' → v ∈ ys → Q v H'
section
variable {P : Program} {w : World} {K : PySem.W.Frag} {mg : Str → Option Value} {base : Heap} {A : Ad}
theorem ok_l_rng (T : Txt K mg A) : FnOk P w K mg base CX0 1 A.f_l_rng A.d_l_rng ["_law_script", "_law_k"] (sp_l_rng K A) := by
  refine T.F_l_rng.ok sc_l_rng (fun vs H Q E h => ?_) (fun cdv A0 outer s H vs Q E hr h => ?_)
  · obtain ⟨a, ns, k, rfl, hS, hk, hk2, q⟩ := h
    rfl
  · obtain ⟨a, ns, k, rfl, hS, hk, hk2, q⟩ := h
    refine ⟨_, (pss_cons (ps_set (i := 2) sc_l_rng.nd rfl (by first | exact Or.inl rfl | exact Or.inr rfl) (pe_op op_add (pe_op op_mul pe_int (pv 1)) pe_int))
    (pss_cons (ps_if (pt_cmpR op_lt (pv 1) (pe_callB (r := VG.rLen K) VG.call_len (by rfl) T.len (by decide +kernel) (pa_cons (pv 0) pa_nil)) (nomark _)) (pss_one (ps_set (i := 2) sc_l_rng.nd rfl (by first | exact Or.inl rfl | exact Or.inr rfl) (pe_ix (r := rIxL K) ix_list (pv 0) (pv 1) (fun _ _ => rfl)))) pss_nil)
    (pss_one (ps_ret (pe_lst (pa_cons (pe_callB (call_max2 rfl) (by rfl) T.max (by decide +kernel) (pa_cons pe_int (pa_cons (pe_op op_sub (pe_callB call_abs (by rfl) T.abs (by decide +kernel) (pa_cons (pv 2) pa_nil)) (pe_op op_pow pe_int pe_int)) pa_nil))) (pa_cons (pe_op op_add (pe_op op_mod (pe_op op_mul (pe_callTy call_int1 (by rfl) T.int (by decide +kernel) (pa_cons (pe_op op_add (pe_op op_mod (pe_callTy call_int1 (by rfl) T.int (by decide +kernel) (pa_cons (pe_callB call_abs (by rfl) T.abs (by decide +kernel) (pa_cons (pv 2) pa_nil)) pa_nil)) pe_int) pe_int) pa_nil)) (pe_op op_pow (pe_op op_add (pe_op op_mul pe_int (pv 1)) pe_int) pe_int)) pe_int) pe_int) pa_nil))))))), ?_⟩
    refine ⟨_, rfl, _, _, rfl, rfl, .inl ⟨by decide, by decide⟩, _, _, rfl, rfl, ?_⟩
    refine ⟨_, rfl, _, rfl, a, _, rfl, .inl hS, _, _, rfl, rfl, _, rfl, ?_⟩
    rw [List.length_map]
    have b1 : (2 * k + 5).natAbs < 2 ^ 64 := by omega
    refine ifD (fun c => ?_) (fun c => ?_)
    · refine ⟨_, rfl, _, rfl, a, _, _, _, rfl, rfl, hS, at_map hk c, ?_⟩
      generalize ns.getD k.toNat 0 = c0
      refine ⟨_, rfl, _, rfl, _, _, rfl, rfl, ⟨by decide, by decide, by decide⟩, _, _, rfl, rfl, _, _, rfl, ?_⟩
      have z1 := Int.emod_nonneg (if c0 < 0 then -c0 else c0) (show (2147483549 : Int) ≠ 0 by decide)
      have z2 := Int.emod_lt_of_pos (if c0 < 0 then -c0 else c0) (show (0 : Int) < 2147483549 by decide)
      refine ⟨_, rfl, _, rfl, .inl ⟨_, rfl, _, _, rfl, rfl, (by show (0 : Int) < 2147483549; decide), _, _, rfl, rfl, .inl ⟨_, rfl, _, rfl, _, _, rfl, rfl, .inl ⟨by decide, by decide⟩, _, _, rfl, rfl, _, _, rfl, rfl, ⟨by decide, by decide, b1⟩, _, _, rfl, rfl, .inl ⟨by omega, by omega⟩, _, _, rfl, rfl, (by show (0 : Int) < 2147483543; decide), _, _, rfl, rfl, (by show 2 ≤ sizeLine; decide), fun p hp => ?_⟩⟩⟩
      have z3 := Int.emod_nonneg (((if c0 < 0 then -c0 else c0) % 2147483549 + 1) * (2 * k + 5) ^ Int.toNat 3) (show (2147483543 : Int) ≠ 0 by decide)
      have z4 := Int.emod_lt_of_pos (((if c0 < 0 then -c0 else c0) % 2147483549 + 1) * (2 * k + 5) ^ Int.toNat 3) (show (0 : Int) < 2147483543 by decide)
      refine q _ p (Same.upd (Same.refl H) hp) hp ⟨_, _, upd_same, ?_, by omega, by omega⟩
      by_cases cc : (if c0 < 0 then -c0 else c0) - 10 ^ Int.toNat 18 > 0
      · rw [if_pos cc]; omega
      · rw [if_neg cc]; omega
    · refine ⟨_, rfl, _, rfl, _, _, rfl, rfl, ⟨by decide, by decide, by decide⟩, _, _, rfl, rfl, _, _, rfl, ?_⟩
      have z1 := Int.emod_nonneg (if (7 * k + 3) < 0 then -(7 * k + 3) else (7 * k + 3)) (show (2147483549 : Int) ≠ 0 by decide)
      have z2 := Int.emod_lt_of_pos (if (7 * k + 3) < 0 then -(7 * k + 3) else (7 * k + 3)) (show (0 : Int) < 2147483549 by decide)
      refine ⟨_, rfl, _, rfl, .inl ⟨_, rfl, _, _, rfl, rfl, (by show (0 : Int) < 2147483549; decide), _, _, rfl, rfl, .inl ⟨_, rfl, _, rfl, _, _, rfl, rfl, .inl ⟨by decide, by decide⟩, _, _, rfl, rfl, _, _, rfl, rfl, ⟨by decide, by decide, b1⟩, _, _, rfl, rfl, .inl ⟨by omega, by omega⟩, _, _, rfl, rfl, (by show (0 : Int) < 2147483543; decide), _, _, rfl, rfl, (by show 2 ≤ sizeLine; decide), fun p hp => ?_⟩⟩⟩
      have z3 := Int.emod_nonneg (((if (7 * k + 3) < 0 then -(7 * k + 3) else (7 * k + 3)) % 2147483549 + 1) * (2 * k + 5) ^ Int.toNat 3) (show (2147483543 : Int) ≠ 0 by decide)
      have z4 := Int.emod_lt_of_pos (((if (7 * k + 3) < 0 then -(7 * k + 3) else (7 * k + 3)) % 2147483549 + 1) * (2 * k + 5) ^ Int.toNat 3) (show (0 : Int) < 2147483543 by decide)
      refine q _ p (Same.upd (Same.refl H) hp) hp ⟨_, _, upd_same, ?_, by omega, by omega⟩
      by_cases cc : (if (7 * k + 3) < 0 then -(7 * k + 3) else (7 * k + 3)) - 10 ^ Int.toNat 18 > 0
      · rw [if_pos cc]; omega
      · rw [if_neg cc]; omega
theorem ok_l_draw (T : Txt K mg A) : FnOk P w K mg base CX0 1 A.f_l_draw A.d_l_draw ["_law_rng_here", "_law_many"] (sp_l_draw K A) := by
  refine T.F_l_draw.ok sc_l_draw (fun vs H Q E h => ?_) (fun cdv A0 outer s H vs Q E hr h => ?_)
  · obtain ⟨r, m, rfl, ⟨a, b, hr0, ha, hb, hb2⟩, hm, hm2, q⟩ := h
    rfl
  · obtain ⟨r, m, rfl, ⟨a, b, hr0, ha, hb, hb2⟩, hm, hm2, q⟩ := h
    refine ⟨_, (pss_cons (ps_if (pt_cmpR op_gt (pe_ix (r := rIxL K) ix_list (pv 0) pe_int (fun _ _ => rfl)) pe_int (nomark _)) (pss_cons (ps_asg (pe_callB call_divmod (by rfl) T.divmod (by decide +kernel) (pa_cons (pe_ix (r := rIxL K) ix_list (pv 0) pe_int (fun _ _ => rfl)) (pa_cons (pv 1) pa_nil))) (pg_tup rfl (pgs_cons (pg_sub (pv 0) pe_int set_list) (pgs_cons (pg_name (i := 2) sc_l_draw.nd rfl (by first | exact Or.inl rfl | exact Or.inr rfl)) pgs_nil))))
    (pss_one (ps_ret (pv 2)))) pss_nil)
    (pss_cons (ps_asg (pe_op op_mod (pe_callTy call_int1 (by rfl) T.int (by decide +kernel) (pa_cons (pe_op op_add (pe_op op_mul (pe_ix (r := rIxL K) ix_list (pv 0) pe_int (fun _ _ => rfl)) pe_int) pe_int) pa_nil)) pe_int) (pg_sub (pv 0) pe_int set_list))
    (pss_one (ps_ret (pe_op op_mod (pe_op op_fdiv (pe_op op_mod (pe_callTy call_int1 (by rfl) T.int (by decide +kernel) (pa_cons (pe_op op_mul (pe_ix (r := rIxL K) ix_list (pv 0) pe_int (fun _ _ => rfl)) (pe_ix (r := rIxL K) ix_list (pv 0) pe_int (fun _ _ => rfl))) pa_nil)) pe_int) pe_int) (pv 1)))))), ?_⟩
    refine ⟨_, rfl, r, _, _, _, rfl, rfl, SqL.of hr0, rfl, _, _, rfl, rfl, _, rfl, ifD (fun c => ?_) (fun c => ?_)⟩
    · refine ⟨_, rfl, r, _, _, _, rfl, rfl, SqL.of hr0, rfl, _, rfl, _, _, rfl, ⟨hm, hm2⟩, fun t ht => ?_⟩
      have nrt : r ≠ t := ne_of_none hr0 ht
      refine ⟨t, _, rfl, SqT.of upd_same, rfl, _, _, rfl, _, rfl, r, _, _, 0, rfl, rfl, (by rw [upd_ne nrt]; exact hr0), rfl, _, _, rfl, rfl, ?_⟩
      refine ⟨_, rfl, q _ _ ⟨fun z o hz e => ?_, a / m, b, upd_same, Int.ediv_nonneg ha (by omega), hb, hb2⟩ (Int.emod_nonneg _ (by omega)) (Int.emod_lt_of_pos _ hm)⟩
      rw [upd_ne hz, upd_ne (ne_of_none e ht)]; exact e
    · refine ⟨_, rfl, r, _, _, _, rfl, rfl, SqL.of hr0, rfl, _, _, rfl, rfl, .inl ⟨by omega, by omega⟩, _, _, rfl, rfl, .inl ⟨_, rfl, _, _, rfl, rfl, (by show (0 : Int) < 2147483563; decide), ?_⟩⟩
      have e0 := Int.emod_nonneg (b * 48311 + 20011) (show (2147483563 : Int) ≠ 0 by decide)
      have e1 := Int.emod_lt_of_pos (b * 48311 + 20011) (show (0 : Int) < 2147483563 by decide)
      refine ⟨_, rfl, r, _, _, 1, rfl, rfl, hr0, rfl, ?_⟩
      have hr1 : upd H r (.lst [.int a, .int ((b * 48311 + 20011) % 2147483563)]) r = some (.lst [.int a, .int ((b * 48311 + 20011) % 2147483563)]) := upd_same
      refine ⟨_, rfl, r, [.int a, .int ((b * 48311 + 20011) % 2147483563)], _, _, rfl, rfl, SqL.of hr1, rfl, _, rfl, r, [.int a, .int ((b * 48311 + 20011) % 2147483563)], _, _, rfl, rfl, SqL.of hr1, rfl, _, _, rfl, rfl, .inl ⟨by omega, by omega⟩, .inl ⟨_, rfl, _, _, rfl, rfl, (by show (0 : Int) < 2147483497; decide), _, _, rfl, rfl, ⟨by decide, by decide⟩, _, rfl, _, _, rfl, rfl, hm, ?_⟩⟩
      exact q _ _ ⟨fun z o hz e => by rw [upd_ne hz]; exact e, a, _, hr1, ha, e0, e1⟩ (Int.emod_nonneg _ (by omega)) (Int.emod_lt_of_pos _ hm)
theorem ok_l_choice (T : Txt K mg A) : FnOk P w K mg base CX0 2 A.f_l_choice A.d_l_choice ["_law_rng_here", "_law_some"] (sp_l_choice K A) := by
  have G_l_draw := ok_l_draw (P := P) (w := w) (base := base) T
  refine T.F_l_choice.ok sc_l_choice (fun vs H Q E h => ?_) (fun cdv A0 outer s H vs Q E hr h => ?_)
  · obtain ⟨r, l, ys, rfl, hr0, hS, hl, hy, hy2, q⟩ := h
    rfl
  · obtain ⟨r, l, ys, rfl, hr0, hS, hl, hy, hy2, q⟩ := h
    refine ⟨_, (pss_one (ps_ret (pe_ix (r := rIxL K) ix_list (pv 1) (pe_call G_l_draw (hr.mono (by decide)) rfl T.m_l_draw T.k_l_draw T.b_l_draw .nil pass0 (pa_cons (pv 0) (pa_cons (pe_callB (r := VG.rLen K) VG.call_len (by rfl) T.len (by decide +kernel) (pa_cons (pv 1) pa_nil)) pa_nil))) (fun _ _ => rfl)))), ?_⟩
    refine ⟨_, rfl, _, rfl, _, rfl, l, _, rfl, .inl hS, r, _, rfl, hr0, by omega, by omega, fun H1 d e1 h0 h1 => ?_⟩
    have hd : d.toNat < ys.length := by omega
    refine ⟨l, ys, d, ys[d.toNat], rfl, rfl, e1.seq hl hS, ?_, q H1 _ e1 (List.getElem_mem hd)⟩
    exact at_of (j := d.toNat) (by omega) (List.getElem?_eq_getElem hd)
end
end VK


namespace VK
open PySem PySem.Spec PyProof.Rows L2 VM
/-- all but what lies in S stands -/
def Ex (S : List Addr) (H H' : Hp) : Prop := ∀ b o, b ∉ S → H b = some o → H' b = some o
theorem Ex.refl {S : List Addr} {H : Hp} : Ex S H H := fun _ _ _ e => e
theorem Ex.trans {S : List Addr} {H H1 H2 : Hp} (a : Ex S H H1) (b : Ex S H1 H2) : Ex S H H2 := fun c o n e => b c o n (a c o n e)
theorem Ex.same {S : List Addr} {H H' : Hp} (s : Same H H') : Ex S H H' := fun b o _ e => s b o e
theorem Ex.ext {S : List Addr} {p : Addr} {H H' : Hp} (s : Ext p H H') (hp : p ∈ S) : Ex S H H' := fun b o n e => s.keep b o (fun z => n (z ▸ hp)) e
theorem Ex.put {S : List Addr} {a : Addr} {H : Hp} {o : HO} (ha : a ∈ S) : Ex S H (upd H a o) := fun b u n e => by
  have nb : b ≠ a := fun z => n (by rw [z]; exact ha)
  rw [upd_ne nb]; exact e
theorem Ex.mono {S S' : List Addr} {H H' : Hp} (h : Ex S H H') (i : ∀ a ∈ S, a ∈ S') : Ex S' H H' := fun b o n e => h b o (fun z => n (i b z)) e
theorem Ext.new {r : Addr} {H H' : Hp} {l : Addr} {o : HO} (e : Ext r H H') (h : H' l = none) : Ext r H (upd H' l o) := e.same (Same.upd (Same.refl _) h)
theorem Ext.put {r : Addr} {H H' : Hp} {l : Addr} {o : HO} (e : Ext r H H') (h : H l = none) (n : l ≠ r) : Ext r H (upd H' l o) :=
  ⟨fun b u nb q => by rw [upd_ne (ne_of_none q h)]; exact e.keep b u nb q, by
    obtain ⟨a, b, q, z⟩ := e.rng
    exact ⟨a, b, by rw [upd_ne (Ne.symm n)]; exact q, z⟩⟩
/-- a thing that is drawn: its kind, its data, whatever becomes of what lies in S -/
structure Lf (K : PySem.W.Frag) (H : Hp) (S : List Addr) (B : Int) (k L : Nat) (v : V) (d : PyData) (n : String) : Prop where
  kd : ∀ H', Ex S H H' → Kd K H' v n
  dm : ∀ H', Ex S H H' → VQ.Dm K H' v d
  sz : VR.Sz k L d
  bd : ∀ i, VB.nI v = some i → -(10 ^ 18 + B) ≤ i ∧ i ≤ 10 ^ 18 + B
theorem Lf.ex {K : PySem.W.Frag} {H H' : Hp} {S : List Addr} {B : Int} {k L : Nat} {v : V} {d : PyData} {n : String} (h : Lf K H S B k L v d n) (e : Ex S H H') : Lf K H' S B k L v d n :=
  ⟨fun G s => h.kd G (e.trans s), fun G s => h.dm G (e.trans s), h.sz, h.bd⟩
theorem Lf.mono {K : PySem.W.Frag} {H : Hp} {S : List Addr} {B B' : Int} {k k' L L' : Nat} {v : V} {d : PyData} {n : String} (h : Lf K H S B k L v d n) (hB : B ≤ B') (hk : k ≤ k') (hL : L ≤ L') : Lf K H S B' k' L' v d n :=
  ⟨h.kd, h.dm, h.sz.mono hk hL, fun i e => by have := h.bd i e; omega⟩
theorem Lf.kds {K : PySem.W.Frag} {H : Hp} {S : List Addr} {B : Int} {k L : Nat} {v : V} {d : PyData} {n : String} (h : Lf K H S B k L v d n) : KdS K H v n := fun G s => h.kd G (.same s)
section
variable {K : PySem.W.Frag} {H : Hp} {S : List Addr} {B : Int}
theorem Lf.int {i : Int} (h : -(10 ^ 18 + B) ≤ i ∧ i ≤ 10 ^ 18 + B) (hB : B ≤ 100) : Lf K H S B 1 200 (.int i) (.int i) "int" :=
  ⟨fun _ _ => Kd.int i, fun _ _ => .flat (.int i), (VR.Sz.int (by
    have a : i.natAbs ≤ 10 ^ 18 + 100 := by omega
    exact Nat.lt_of_le_of_lt a (by decide))).mono (by omega) (by omega), fun j e => by cases e; exact h⟩
theorem Lf.bl (b : Bool) (hB : 0 ≤ B) : Lf K H S B 1 200 (.bl b) (.bool b) "bool" :=
  ⟨fun _ _ => ⟨.base (.bl b), by decide⟩, fun _ _ => .flat (.bl b), (VR.Sz.bool b).mono (by omega) (by omega), fun j e => by cases b <;> cases e <;> constructor <;> simp <;> omega⟩
theorem Lf.non : Lf K H S B 1 200 .non .none "NoneType" :=
  ⟨fun _ _ => ⟨.base .non, by decide⟩, fun _ _ => .flat .non, VR.Sz.none.mono (by omega) (by omega), fun j e => by cases e⟩
theorem Lf.str {x : Str} (h : (PyData.str x).shown.length ≤ 200) : Lf K H S B 1 200 (.str x) (.str x) "str" :=
  ⟨fun _ _ => ⟨.base (.str x), by decide⟩, fun _ _ => .flat (.str x), ⟨rfl, Nat.zero_le _, h⟩, fun j e => by cases e⟩
theorem Lf.tup {a : Addr} {xs : List V} {ds : List PyData} {k L k' L' n : Nat} (h : H a = some (.tup xs)) (ha : a ∉ S) (hd : ∀ H', Ex S H H' → VQ.DmAll K H' xs ds) (sz : ∀ d ∈ ds, VR.Sz k L d) (hn : ds.length ≤ n) (hk : k + 1 ≤ k') (hL : (L + 2) * n + 3 ≤ L') :
    Lf K H S B k' L' (.ref a) (.tuple ds) "tuple" :=
  ⟨fun G s => ⟨.base (.tup (s _ _ ha h)), by decide⟩, fun G s => .tup (SqT.of (s _ _ ha h)) (hd G s), (VR.Sz.tuple sz hn).mono hk hL, fun j e => by cases e⟩
theorem Lf.lst {a : Addr} {xs : List V} {ds : List PyData} {k L k' L' n : Nat} (h : H a = some (.lst xs)) (ha : a ∉ S) (hd : ∀ H', Ex S H H' → VQ.DmAll K H' xs ds) (sz : ∀ d ∈ ds, VR.Sz k L d) (hn : ds.length ≤ n) (hk : k + 1 ≤ k') (hL : (L + 2) * n + 3 ≤ L') :
    Lf K H S B k' L' (.ref a) (.list ds) "list" :=
  ⟨fun G s => ⟨.base (.lst (s _ _ ha h)), by decide⟩, fun G s => .lst (SqL.of (s _ _ ha h)) (hd G s), (VR.Sz.list sz hn).mono hk hL, fun j e => by cases e⟩
theorem sz1 (i : Int) (h : i.natAbs < 10 ^ 100) : ∀ d ∈ [PyData.int i], VR.Sz 0 101 d := fun d hd => by
  rw [List.mem_singleton] at hd; subst hd; exact VR.Sz.int h
theorem Lf.tup1 {a : Addr} {i : Int} (h : H a = some (.tup [.int i])) (ha : a ∉ S) (hi : i.natAbs < 10 ^ 100) : Lf K H S B 1 200 (.ref a) (.tuple [.int i]) "tuple" :=
  Lf.tup h ha (fun _ _ => .cons (.flat (.int i)) .nil) (sz1 i hi) (Nat.le_refl 1) (Nat.le_refl 1) (by omega)
theorem Lf.lst1 {a : Addr} {i : Int} (h : H a = some (.lst [.int i])) (ha : a ∉ S) (hi : i.natAbs < 10 ^ 100) : Lf K H S B 1 200 (.ref a) (.list [.int i]) "list" :=
  Lf.lst h ha (fun _ _ => .cons (.flat (.int i)) .nil) (sz1 i hi) (Nat.le_refl 1) (Nat.le_refl 1) (by omega)
theorem Lf.lst0 {a : Addr} (h : H a = some (.lst [])) (ha : a ∉ S) : Lf K H S B 1 200 (.ref a) (.list []) "list" :=
  Lf.lst (k := 0) (L := 0) (n := 0) h ha (fun _ _ => .nil) (fun d hd => by cases hd) (Nat.le_refl 0) (Nat.le_refl 1) (by omega)
theorem Lf.dct0 {a : Addr} (h : H a = some (.dK [])) (ha : a ∉ S) : Lf K H S B 1 200 (.ref a) (.dict []) "dict" :=
  ⟨fun G s => ⟨.base (.dK (s _ _ ha h)), by decide⟩, fun G s => .dct (ds := []) (s _ _ ha h) .nil, ⟨rfl, by decide, by decide⟩, fun j e => by cases e⟩
theorem Lf.is_int {k L : Nat} {v : V} {d : PyData} {n : String} (h : Lf K H S B k L v d n) (e : (n == "int" || n == "bool") = true) : ∃ i, VB.nI v = some i ∧ -(10 ^ 18 + B) ≤ i ∧ i ≤ 10 ^ 18 + B := by
  obtain ⟨hk, _⟩ := h.kd H .refl
  have hb := h.bd
  rcases (by simpa using e : n = "int" ∨ n = "bool") with rfl | rfl
  · generalize et : Value.type "int" = t at hk
    cases hk with
    | base b => cases b <;> first | exact ⟨_, rfl, hb _ rfl⟩ | (injection et with et; exact absurd et (by decide)) | cases et
    | _ => first | (injection et with et; exact absurd et (by decide)) | cases et
  · generalize et : Value.type "bool" = t at hk
    cases hk with
    | base b => cases b <;> first | exact ⟨_, rfl, hb _ rfl⟩ | (injection et with et; exact absurd et (by decide)) | cases et
    | _ => first | (injection et with et; exact absurd et (by decide)) | cases et
end
end VK


namespace VK
open PySem PySem.Spec PyProof.Rows L2 VM
theorem cntTo_cnt {m : Int} {v : V} (h : cnt v = false) : cntTo m v = false := by
  cases v <;> first | rfl | skip
  unfold cnt at h
  unfold cntTo
  rw [decide_eq_false_iff_not] at h ⊢
  omega
theorem First.brk {f : Int → Int} {n : Nat} {p g : Int} {o : Option (Int × Int)} (F : First f o) (R : Rep f n p g) (hp : 0 < p) (hpn : p ≤ n) : BrkR f n o := by
  cases o with
  | none =>
    intro a b hb hab _
    have := F b a hb hab
    rw [Int.add_comm b a] at this
    omega
  | some ab =>
    obtain ⟨a, b⟩ := ab
    have l := first_le R hp hpn F
    obtain ⟨a1, a2, a3, a4⟩ := F
    exact ⟨a1, a2, l, a3, fun x y h1 h2 _ lt => a4 x y h1 h2 lt⟩
theorem kb_gain {K : PySem.W.Frag} {mg : Str → Option Value} {A : Ad} (T : Txt K mg A) : ∃ mv : List Value, KBn K A.d_C_init ["self", "values", "period", "gain"] 2 ["gain"] (fun us ws => us ++ (mv ++ ws)) (fun vs zs => vs ++ ([V.int 1] ++ zs)) := by
  obtain ⟨mv, h⟩ := T.F_C_init.kbinds0 (ps := ["self", "values", "period", "gain"]) 2 ["gain"] [("period", .int 1)] (fun us mv ws => us ++ (mv ++ ws)) (by simp) (by simp) (fun a b c => a.append (b.append c))
    (fun D doc pm an cdv ct us mv ws h1 h2 h3 => match us, mv, ws, h1, h2, h3 with | [_, _], [_], [_], _, _, _ => ⟨_, _, _, _, _, _, rfl, rfl, rfl⟩)
  exact ⟨mv, h⟩
theorem form_brk {xs : List Int} {p g : Int} {o : Option (Int × Int)} (hp : 0 < p) (hpn : p ≤ xs.length) (F : First (cvAt xs p g) o) : BrkR (cvAt (formV xs p g) (formP xs p g).1 (formP xs p g).2) (formV xs p g).length o := by
  obtain ⟨a1, a2, a3, a4, a5⟩ := form_spec (vs := xs) (g := g) hp hpn
  exact First.brk (First.congr (fun t ht => (a5 t ht).symm) F) (Rep.cvAt a1 a3) a1 a3
theorem cv_up {m t : Int} (h : 1 ≤ t) : cvAt [1 + m, 2 + m] 1 1 t = t + m := by
  unfold cvAt
  rw [if_neg (by omega)]
  by_cases c : t ≤ 2
  · rw [if_pos (by show t ≤ ((2 : Nat) : Int); omega)]
    rcases (by omega : t = 1 ∨ t = 2) with rfl | rfl
    · rfl
    · rfl
  · rw [if_neg (by show ¬ t ≤ ((2 : Nat) : Int); omega)]
    have e : (t - (([1 + m, 2 + m] : List Int).length : Int) + 1 - 1) / 1 = t - 2 := by show (t - ((2 : Nat) : Int) + 1 - 1) / 1 = t - 2; omega
    rw [e, show (t - (t - 2) * 1 - 1).toNat = 1 by omega]
    show 2 + m + (t - 2) * 1 = t + m
    omega
theorem cv_brk {d t : Int} (h : 1 ≤ t) : cvAt [1, 2, 4 + d] 1 0 t = if t = 1 then 1 else if t = 2 then 2 else 4 + d := by
  unfold cvAt
  rw [if_neg (by omega)]
  by_cases c : t ≤ 3
  · rw [if_pos (by show t ≤ ((3 : Nat) : Int); omega)]
    rcases (by omega : t = 1 ∨ t = 2 ∨ t = 3) with rfl | rfl | rfl <;> rfl
  · rw [if_neg (by show ¬ t ≤ ((3 : Nat) : Int); omega), if_neg (by omega), if_neg (by omega)]
    have e : (t - (([1, 2, 4 + d] : List Int).length : Int) + 1 - 1) / 1 = t - 3 := by show (t - ((3 : Nat) : Int) + 1 - 1) / 1 = t - 3; omega
    rw [e, show (t - (t - 3) * 1 - 1).toNat = 2 by omega]
    show 4 + d + (t - 3) * 0 = 4 + d
    omega
theorem cv_two {t : Int} (h : 1 ≤ t) : cvAt [2, 2] 2 1 t = 2 + (t - 1) / 2 := by
  unfold cvAt
  rw [if_neg (by omega)]
  by_cases c : t ≤ 2
  · rw [if_pos (by show t ≤ ((2 : Nat) : Int); omega)]
    rcases (by omega : t = 1 ∨ t = 2) with rfl | rfl <;> rfl
  · rw [if_neg (by show ¬ t ≤ ((2 : Nat) : Int); omega)]
    have e : (t - (([2, 2] : List Int).length : Int) + 2 - 1) / 2 = (t - 1) / 2 := by show (t - ((2 : Nat) : Int) + 2 - 1) / 2 = _; congr 1; omega
    rw [e]
    have z : (t - (t - 1) / 2 * 2 - 1).toNat = 0 ∨ (t - (t - 1) / 2 * 2 - 1).toNat = 1 := by omega
    rcases z with z | z
    · rw [z]; show 2 + (t - 1) / 2 * 1 = _; omega
    · rw [z]; show 2 + (t - 1) / 2 * 1 = _; omega
theorem first_up {m : Int} (h : 0 ≤ m) : First (cvAt [1 + m, 2 + m] 1 1) none := fun a b h1 h2 => by
  rw [cv_up (by omega), cv_up h1, cv_up (by omega)]; omega
theorem first_brk {d : Int} (h : 0 ≤ d) : First (cvAt [1, 2, 4 + d] 1 0) (some (1, 2)) := by
  refine ⟨by decide, by decide, ?_, fun x y h1 h2 lt => ?_⟩
  · rw [cv_brk (by decide), cv_brk (by decide), cv_brk (by decide)]
    simp only [if_pos, if_neg, Int.reduceAdd, Int.reduceEq, if_true, if_false]
    omega
  · obtain ⟨rfl, rfl⟩ : x = 1 ∧ y = 1 := by omega
    rw [cv_brk (by decide), cv_brk (by decide)]
    simp
theorem first_two : First (cvAt [2, 2] 2 1) none := fun a b h1 h2 => by
  rw [cv_two (by omega), cv_two h1, cv_two (by omega)]; omega
theorem ok_up {m : Int} (h : 0 ≤ m) (h2 : m ≤ 100) : OkRow [1 + m, 2 + m] 1 1 := by
  have g : ∀ i, i < 2 → ([1 + m, 2 + m] : List Int).getD i 0 = 1 + m + i := fun i hi => by
    match i, hi with
    | 0, _ => show 1 + m = 1 + m + (0 : Nat); omega
    | 1, _ => show 2 + m = 1 + m + (1 : Nat); omega
  exact ⟨by show 1 ≤ 2; decide, by show 2 ≤ 24; decide, fun i hi => by rw [g i hi]; omega, fun i hi => by rw [g i hi]; have : i < 2 := hi; omega, fun i hi => by have : i + 1 < 2 := hi; rw [g i (by omega), g (i + 1) this]; omega, .inl rfl, by show (1 : Int) ≤ ((2 : Nat) : Int); decide, by decide, by decide, by
    show ([1 + m, 2 + m] : List Int).getD 1 0 ≤ ([1 + m, 2 + m] : List Int).getD 1 0 + 1
    omega⟩
theorem ok_brk {d : Int} (h : 0 ≤ d) (h2 : d ≤ 100) : OkRow [1, 2, 4 + d] 1 0 := by
  have g : ∀ i, i < 3 → ([1, 2, 4 + d] : List Int).getD i 0 = if i = 2 then 4 + d else 1 + i := fun i hi => by
    match i, hi with
    | 0, _ => rfl
    | 1, _ => rfl
    | 2, _ => rfl
  refine ⟨by show 1 ≤ 3; decide, by show 3 ≤ 24; decide, fun i hi => ?_, fun i hi => ?_, fun i hi => ?_, .inl rfl, by show (1 : Int) ≤ ((3 : Nat) : Int); decide, by decide, by decide, ?_⟩
  · rw [g i hi]; split <;> omega
  · rw [g i hi]; have : i < 3 := hi; split <;> omega
  · have : i + 1 < 3 := hi
    rw [g i (by omega), g (i + 1) this]; split <;> split <;> omega
  · show ([1, 2, 4 + d] : List Int).getD 2 0 ≤ ([1, 2, 4 + d] : List Int).getD 2 0 + 0
    omega
def sp_l_odd (K : PySem.W.Frag) (_ : Ad) : Sp := fun vs H Q _ => ∃ (p : Addr) (S : List Addr), vs = [.ref p] ∧ Rng H p ∧ (∀ a ∈ S, H a ≠ none) ∧ p ∈ S ∧
  ∀ H' v d n, Ext p H H' → Lf K H' S 0 1 200 v d n → cnt v = false → Q v H'
theorem odd_end {K : PySem.W.Frag} {A : Ad} {p : Addr} {S : List Addr} {H H1 : Hp} {Q : VK} {a1 a2 a3 a4 q : Addr} {E : XK} (hR : Rng H p) (hS : ∀ (a : Addr), a ∈ S → H a ≠ none)
    (k : ∀ (H' : Hp) (v : V) (d : PyData) (n : String), Ext p H H' → Lf K H' S 0 1 200 v d n → cnt v = false → Q v H') (f1 : H a1 = none) (f2 : H a2 = none) (f3 : H a3 = none) (f4 : H a4 = none)
    (u1 : H1 a1 = some (.tup [.int 1])) (u2 : H1 a2 = some (.lst [.int 1])) (u3 : H1 a3 = some (.dK [])) (u4 : H1 a4 = some (.tup [])) (sm : Same H H1) (hq : H1 q = none) :
    sp_l_choice K A [.ref p, .ref q] (upd H1 q (.lst [.int (-1), .bl true, .bl false, .non, .str "1", .ref a1, .ref a2, .ref a3, .str "", .int (-(10 ^ 17)), .ref a4, .str "a"])) Q E := by
  have s2 := Same.upd (o := .lst [.int (-1), .bl true, .bl false, .non, .str "1", .ref a1, .ref a2, .ref a3, .str "", .int (-(10 ^ 17)), .ref a4, .str "a"]) sm (sm.free hq)
  have nS : ∀ {a : Addr}, H a = none → a ∉ S := fun h m => hS _ m h
  have np : ∀ {a : Addr}, H a = none → a ≠ p := fun h z => by rw [z] at h; obtain ⟨_, _, r, _⟩ := hR; rw [r] at h; cases h
  refine ⟨p, q, _, rfl, hR.same s2, SqL.of upd_same, (hR.same sm).ne hq, by show 0 < 12; decide, by show 12 < 1000000; decide, fun H' v' e hv => ?_⟩
  have e0 : Ext p H H' := (Ext.of hR s2).trans e
  have w1 : H' a1 = some (.tup [.int 1]) := e.keep _ _ (np f1) (by rw [upd_ne (ne_of_none u1 hq)]; exact u1)
  have w2 : H' a2 = some (.lst [.int 1]) := e.keep _ _ (np f2) (by rw [upd_ne (ne_of_none u2 hq)]; exact u2)
  have w3 : H' a3 = some (.dK []) := e.keep _ _ (np f3) (by rw [upd_ne (ne_of_none u3 hq)]; exact u3)
  have w4 : H' a4 = some (.tup []) := e.keep _ _ (np f4) (by rw [upd_ne (ne_of_none u4 hq)]; exact u4)
  simp only [List.mem_cons, List.not_mem_nil, or_false] at hv
  rcases hv with rfl | rfl | rfl | rfl | rfl | rfl | rfl | rfl | rfl | rfl | rfl | rfl
  · exact k _ _ _ _ e0 (Lf.int (by omega) (by decide)) rfl
  · exact k _ _ _ _ e0 (Lf.bl true (by decide)) rfl
  · exact k _ _ _ _ e0 (Lf.bl false (by decide)) rfl
  · exact k _ _ _ _ e0 Lf.non rfl
  · exact k _ _ _ _ e0 (Lf.str (by decide +kernel)) rfl
  · exact k _ _ _ _ e0 (Lf.tup1 w1 (nS f1) (by decide)) rfl
  · exact k _ _ _ _ e0 (Lf.lst1 w2 (nS f2) (by decide)) rfl
  · exact k _ _ _ _ e0 (Lf.dct0 w3 (nS f3)) rfl
  · exact k _ _ _ _ e0 (Lf.str (by decide +kernel)) rfl
  · exact k _ _ _ _ e0 (Lf.int (by decide) (by decide)) rfl
  · exact k _ _ _ _ e0 (Lf.tup (k := 0) (L := 0) (n := 0) w4 (nS f4) (fun _ _ => .nil) (fun d hd => by cases hd) (Nat.le_refl 0) (Nat.le_refl 1) (by omega)) rfl
  · exact k _ _ _ _ e0 (Lf.str (by decide +kernel)) rfl
section
variable {P : Program} {w : World} {K : PySem.W.Frag} {mg : Str → Option Value} {base : Heap} {A : Ad}
theorem ok_l_odd (T : Txt K mg A) : FnOk P w K mg base CX0 3 A.f_l_odd A.d_l_odd ["_law_rng_here"] (sp_l_odd K A) := by
  have G_l_choice := ok_l_choice (P := P) (w := w) (base := base) T
  refine T.F_l_odd.ok sc_l_odd (fun vs H Q E h => ?_) (fun cdv A0 outer s H vs Q E hr h => ?_)
  · obtain ⟨p, S, rfl, hR, hS, hp, k⟩ := h
    rfl
  · obtain ⟨p, S, rfl, hR, hS, hp, k⟩ := h
    refine ⟨_, (pss_one (ps_ret (pe_call G_l_choice (hr.mono (by decide)) rfl T.m_l_choice T.k_l_choice T.b_l_choice .nil pass0 (pa_cons (pv 0) (pa_cons (pe_lst (pa_cons (pe_un un_neg pe_int) (pa_cons pe_bl (pa_cons pe_bl (pa_cons pe_non (pa_cons pe_str (pa_cons (pe_tup (pa_cons pe_int pa_nil)) (pa_cons (pe_lst (pa_cons pe_int pa_nil)) (pa_cons pe_dnewK (pa_cons pe_str (pa_cons (pe_un un_neg (pe_op op_pow pe_int pe_int)) (pa_cons (pe_tup pa_nil) (pa_cons pe_str pa_nil))))))))))))) pa_nil))))), ?_⟩
    refine ⟨_, rfl, _, rfl, (by show 1 ≤ sizeLine; decide), fun a1 h1 => ⟨(by show 1 ≤ sizeLine; decide), fun a2 h2 => ?_⟩⟩
    intro a3 h3
    refine ⟨_, _, rfl, rfl, ⟨by decide, by decide, by decide⟩, _, rfl, (by show 0 ≤ sizeLine; decide), fun a4 h4 => ⟨(by show 12 ≤ sizeLine; decide), fun q hq => ?_⟩⟩
    have u1 : upd (upd (upd (upd H a1 (.tup [.int 1])) a2 (.lst [.int 1])) a3 (.dK [])) a4 (.tup []) a4 = some (.tup []) := upd_same
    have n12 : a1 ≠ a2 := fun z => by rw [← z, upd_same] at h2; cases h2
    have n13 : a1 ≠ a3 := fun z => by rw [← z, upd_ne n12, upd_same] at h3; cases h3
    have n23 : a2 ≠ a3 := fun z => by rw [← z, upd_same] at h3; cases h3
    have n34 : a3 ≠ a4 := fun z => by rw [← z, upd_same] at h4; cases h4
    have n24 : a2 ≠ a4 := fun z => by rw [← z, upd_ne n23, upd_same] at h4; cases h4
    have n14 : a1 ≠ a4 := fun z => by rw [← z, upd_ne n13, upd_ne n12, upd_same] at h4; cases h4
    have v3 : upd (upd (upd (upd H a1 (.tup [.int 1])) a2 (.lst [.int 1])) a3 (.dK [])) a4 (.tup []) a3 = some (.dK []) := by rw [upd_ne n34]; exact upd_same
    have v2 : upd (upd (upd (upd H a1 (.tup [.int 1])) a2 (.lst [.int 1])) a3 (.dK [])) a4 (.tup []) a2 = some (.lst [.int 1]) := by rw [upd_ne n24, upd_ne n23]; exact upd_same
    have v1 : upd (upd (upd (upd H a1 (.tup [.int 1])) a2 (.lst [.int 1])) a3 (.dK [])) a4 (.tup []) a1 = some (.tup [.int 1]) := by rw [upd_ne n14, upd_ne n13, upd_ne n12]; exact upd_same
    have f2 : H a2 = none := by rw [upd_ne (Ne.symm n12)] at h2; exact h2
    have f3 : H a3 = none := by rw [upd_ne (Ne.symm n23), upd_ne (Ne.symm n13)] at h3; exact h3
    have f4 : H a4 = none := by rw [upd_ne (Ne.symm n34), upd_ne (Ne.symm n24), upd_ne (Ne.symm n14)] at h4; exact h4
    have sm : Same H (upd (upd (upd (upd H a1 (.tup [.int 1])) a2 (.lst [.int 1])) a3 (.dK [])) a4 (.tup [])) := Same.upd (Same.upd (Same.upd (Same.upd (Same.refl H) h1) f2) f3) f4
    generalize upd (upd (upd (upd H a1 (.tup [.int 1])) a2 (.lst [.int 1])) a3 (.dK [])) a4 (.tup []) = H1 at *
    exact odd_end (A := A) (E := E) hR hS k h1 f2 f3 f4 v1 v2 v3 u1 sm hq
/-- what a drawn count is: right or wrong -/
def good (m : Bool) (v : V) : Bool := if m then cntTo 400 v else cnt v
def sp_l_count (K : PySem.W.Frag) (_ : Ad) : Sp := fun vs H Q _ => ∃ (p : Addr) (S : List Addr) (m : Bool), vs = [.ref p, if m then .int 400 else .non] ∧ Rng H p ∧ (∀ a ∈ S, H a ≠ none) ∧ p ∈ S ∧
  ∀ H' t v d n, Ext p H H' → H t = none → H' t = some (.tup [v, .bl (good m v)]) → Lf K H' S 0 1 200 v d n → Q (.ref t) H'
theorem ok_l_count (T : Txt K mg A) : FnOk P w K mg base CX0 4 A.f_l_count A.d_l_count ["_law_rng_here", "_law_most"] (sp_l_count K A) := by
  have G_l_draw := ok_l_draw (P := P) (w := w) (base := base) T
  have G_l_odd := ok_l_odd (P := P) (w := w) (base := base) T
  refine T.F_l_count.ok sc_l_count (fun vs H Q E h => ?_) (fun cdv A0 outer s H vs Q E hr h => ?_)
  · obtain ⟨p, S, m, rfl, hR, hS, hp, k⟩ := h
    rfl
  · obtain ⟨p, S, m, rfl, hR, hS, hp, k⟩ := h
    refine ⟨_, (pss_cons (ps_set (i := 2) sc_l_count.nd rfl (by first | exact Or.inl rfl | exact Or.inr rfl) (pe_call G_l_draw (hr.mono (by decide)) rfl T.m_l_draw T.k_l_draw T.b_l_draw .nil pass0 (pa_cons (pv 0) (pa_cons pe_int pa_nil))))
    (pss_cons (ps_if (pt_cmpR op_eq (pv 2) pe_int (nomark _)) (pss_one (ps_ret (pe_tup (pa_cons (pe_call G_l_odd (hr.mono (by decide)) rfl T.m_l_odd T.k_l_odd T.b_l_odd .nil pass0 (pa_cons (pv 0) pa_nil)) (pa_cons pe_bl pa_nil))))) pss_nil)
    (pss_cons (ps_if (PW.pt (pw_and (pt_cmpR op_eq (pv 2) pe_int (nomark _)) (pw_and1 (pt_cmp (pc_notN (pv 1)) rfl)))) (pss_one (ps_ret (pe_tup (pa_cons (pe_op op_add (pe_op op_add (pv 1) pe_int) (pe_call G_l_draw (hr.mono (by decide)) rfl T.m_l_draw T.k_l_draw T.b_l_draw .nil pass0 (pa_cons (pv 0) (pa_cons pe_int pa_nil)))) (pa_cons pe_bl pa_nil))))) pss_nil)
    (pss_cons (ps_if (PW.pt (pw_and (pt_cmpR op_eq (pv 2) pe_int (nomark _)) (pw_and1 (pt_cmp (pc_notN (pv 1)) rfl)))) (pss_one (ps_ret (pe_tup (pa_cons (pv 1) (pa_cons pe_bl pa_nil))))) pss_nil)
    (pss_one (ps_ret (pe_tup (pa_cons (pe_call G_l_draw (hr.mono (by decide)) rfl T.m_l_draw T.k_l_draw T.b_l_draw .nil pass0 (pa_cons (pv 0) (pa_cons pe_int pa_nil))) (pa_cons pe_bl pa_nil))))))))), ?_⟩
    refine ⟨_, rfl, p, 4, rfl, hR, by decide, by decide, fun H1 d1 e1 d10 d11 => ?_⟩
    have hS1 : ∀ a ∈ S, H1 a ≠ none := fun a ha z => hS a ha (e1.free z)
    have fin : ∀ (G : Hp) (v : V) (d : PyData) (n : String) (b : Bool) (t : Addr), Ext p H1 G → G t = none → Lf K G S 0 1 200 v d n → b = good m v → Q (.ref t) (upd G t (.tup [v, .bl b])) := fun G v d n b t e ht lf hb => by
      subst hb
      exact k _ t v d n (e1.trans (e.new ht)) (e1.free (e.free ht)) upd_same (lf.ex (Ex.same (Same.upd (Same.refl _) ht)))
    refine ⟨_, rfl, rfl, _, rfl, ifEq (fun c0 => ?_) (fun c0 => ?_)⟩
    · refine ⟨_, rfl, p, S, rfl, e1.rng, hS1, hp, fun H2 v d n e2 lf hc => ⟨(by show 2 ≤ sizeLine; decide), fun t ht => fin H2 v d n false t e2 ht lf ?_⟩⟩
      unfold good
      cases m
      · exact hc.symm
      · exact (cntTo_cnt hc).symm
    have gt : ∀ (b : Bool) (i : Int), 0 ≤ i → i ≤ 400 → true = good b (.int i) := fun b i h0 h1 => by
      unfold good cnt cntTo
      cases b
      · exact (decide_eq_true h0).symm
      · exact (decide_eq_true ⟨h0, h1⟩).symm
    cases m with
    | false =>
      refine ⟨_, rfl, rfl, _, rfl, ifEq (fun c1 => ⟨_, rfl, _, rfl, iteF ?_⟩) (fun c1 => ?_)⟩
      all_goals refine ⟨_, rfl, rfl, _, rfl, ifEq (fun c2 => ⟨_, rfl, _, rfl, iteF ?_⟩) (fun c2 => ?_)⟩
      all_goals exact ⟨_, rfl, p, 9, rfl, e1.rng, by decide, by decide, fun H2 d2 e2 d20 d21 => ⟨(by show 2 ≤ sizeLine; decide), fun t ht => fin H2 (.int d2) _ _ true t e2 ht (Lf.int (by omega) (by decide)) (gt _ _ d20 (by omega))⟩⟩
    | true =>
      refine ⟨_, rfl, rfl, _, rfl, ifEq (fun c1 => ⟨_, rfl, _, rfl, iteT ?_⟩) (fun c1 => ?_)⟩
      · refine ⟨_, rfl, _, _, rfl, rfl, _, rfl, p, 5, rfl, e1.rng, by decide, by decide, fun H2 d2 e2 d20 d21 => ⟨_, _, rfl, rfl, (by show 2 ≤ sizeLine; decide), fun t ht => fin H2 _ _ _ false t e2 ht (Lf.int (by omega) (by decide)) ?_⟩⟩
        unfold good cntTo
        exact (decide_eq_false (by omega)).symm
      · refine ⟨_, rfl, rfl, _, rfl, ifEq (fun c2 => ⟨_, rfl, _, rfl, iteT ?_⟩) (fun c2 => ?_)⟩
        · exact ⟨_, rfl, (by show 2 ≤ sizeLine; decide), fun t ht => fin H1 (.int 400) _ _ true t (Ext.refl e1.rng) ht (Lf.int (by omega) (by decide)) (gt _ _ (by decide) (by decide))⟩
        · exact ⟨_, rfl, p, 9, rfl, e1.rng, by decide, by decide, fun H2 d2 e2 d20 d21 => ⟨(by show 2 ≤ sizeLine; decide), fun t ht => fin H2 (.int d2) _ _ true t e2 ht (Lf.int (by omega) (by decide)) (gt _ _ d20 (by omega))⟩⟩
/-- a curve that is drawn, and its break -/
def sp_l_curve (K : PySem.W.Frag) (A : Ad) : Sp := fun vs H Q _ => ∃ (p : Addr), vs = [.ref p] ∧ Rng H p ∧
  ∀ H' t x l cs pp g o v, Ext p H H' → H t = none → H' t = some (.tup [.ref x, v]) → H x = none → H l = none → CuL A H' x l cs pp g o → 0 < pp → pp ≤ cs.length → cs.length ≤ 1000 → BrkR (cvAt cs pp g) cs.length o →
    (o = none ∧ v = .non ∨ o = some (1, 2) ∧ ∃ t2, v = .ref t2 ∧ H t2 = none ∧ H' t2 = some (.tup [.int 1, .int 2])) → Q (.ref t) H'
theorem ok_l_curve (T : Txt K mg A) : FnOk P w K mg base CX0 7 A.f_l_curve A.d_l_curve ["_law_rng_here"] (sp_l_curve K A) := by
  have G_C_init := ok_C_init (P := P) (w := w) (base := base) T
  have G_l_draw := ok_l_draw (P := P) (w := w) (base := base) T
  obtain ⟨dc, hvC, hbC⟩ := db_cinit T
  obtain ⟨mv1, kb_Curve_gain⟩ := kb_gain T
  refine T.F_l_curve.ok sc_l_curve (fun vs H Q E h => ?_) (fun cdv A0 outer s H vs Q E hr h => ?_)
  · obtain ⟨p, rfl, hR, k⟩ := h
    rfl
  · obtain ⟨p, rfl, hR, k⟩ := h
    refine ⟨_, (pss_cons (ps_if (pt_cmpR op_eq (pe_call G_l_draw (hr.mono (by decide)) rfl T.m_l_draw T.k_l_draw T.b_l_draw .nil pass0 (pa_cons (pv 0) (pa_cons pe_int pa_nil))) pe_int (nomark _)) (pss_cons (ps_set (i := 1) sc_l_curve.nd rfl (by first | exact Or.inl rfl | exact Or.inr rfl) (pe_call G_l_draw (hr.mono (by decide)) rfl T.m_l_draw T.k_l_draw T.b_l_draw .nil pass0 (pa_cons (pv 0) (pa_cons pe_int pa_nil))))
    (pss_one (ps_ret (pe_tup (pa_cons (pe_makeK (n := 1) T.M_Curve G_C_init (hr.mono (by decide)) rfl T.m_Curve kb_Curve_gain pass0 (pa_cons (pe_lst (pa_cons (pe_op op_add pe_int (pv 1)) (pa_cons (pe_op op_add pe_int (pv 1)) pa_nil))) pa_nil) (pk_cons pe_int pk_nil)) (pa_cons pe_non pa_nil)))))) pss_nil)
    (pss_one (ps_ret (pe_tup (pa_cons (pe_make T.M_Curve G_C_init (hr.mono (by decide)) rfl T.m_Curve hbC hvC pass0 (pa_cons (pe_lst (pa_cons pe_int (pa_cons pe_int (pa_cons (pe_op op_add pe_int (pe_call G_l_draw (hr.mono (by decide)) rfl T.m_l_draw T.k_l_draw T.b_l_draw .nil pass0 (pa_cons (pv 0) (pa_cons pe_int pa_nil)))) pa_nil)))) pa_nil)) (pa_cons (pe_tup (pa_cons pe_int (pa_cons pe_int pa_nil))) pa_nil)))))), ?_⟩
    have fin : ∀ (H2 H3 : Hp) (l x dx dx' l' : Addr) (xs : List Int) (pp g : Int) (o : Option (Int × Int)), Ext p H H2 → H2 l = none → upd H2 l (.lst (xs.map V.int)) x = none → upd H2 l (.lst (xs.map V.int)) dx = none → dx ≠ x → OkRow xs pp g → First (cvAt xs pp g) o →
        (∀ b v, b ≠ x → upd (upd (upd H2 l (.lst (xs.map V.int))) dx (.own x)) x (.ins A.Curve dx []) b = some v → H3 b = some v) → upd (upd (upd H2 l (.lst (xs.map V.int))) dx (.own x)) x (.ins A.Curve dx []) l' = none →
        H3 x = some (.ins A.Curve dx' (cfs l' (formP xs pp g).1 (formP xs pp g).2 false .non)) → H3 l' = some (.lst ((formV xs pp g).map V.int)) →
        Ext p H H3 ∧ H x = none ∧ H l' = none ∧ CuL A H3 x l' (formV xs pp g) (formP xs pp g).1 (formP xs pp g).2 o ∧ 0 < (formP xs pp g).1 ∧ (formP xs pp g).1 ≤ (formV xs pp g).length ∧ (formV xs pp g).length ≤ 1000 ∧ BrkR (cvAt (formV xs pp g) (formP xs pp g).1 (formP xs pp g).2) (formV xs pp g).length o := by
      intro H2 H3 l x dx dx' l' xs pp g o e2 hl hx hdx hne R F keep hl' c1 c2
      have ppos : 0 < pp := by rcases R.per with h | h | h | h | h | h <;> omega
      obtain ⟨a1, a2, a3, a4, a5⟩ := form_spec (vs := xs) (g := g) ppos R.pn
      have el := e2.new (o := .lst (xs.map V.int)) hl
      have s3 : Same (upd H2 l (.lst (xs.map V.int))) H3 := fun b v e => keep b v (ne_of_none e hx) (by rw [upd_ne (ne_of_none e hx), upd_ne (ne_of_none e hdx)]; exact e)
      have hl2 : upd H2 l (.lst (xs.map V.int)) l' = none := by
        have n1 : l' ≠ x := fun z => by rw [z, upd_same] at hl'; cases hl'
        rw [upd_ne n1] at hl'
        have n2 : l' ≠ dx := fun z => by rw [z, upd_same] at hl'; cases hl'
        rw [upd_ne n2] at hl'; exact hl'
      exact ⟨el.same s3, el.free hx, el.free hl2, ⟨dx', false, _, c1, c2, fun z => nomatch z⟩, a1, a3, by have := R.l2; omega, form_brk ppos R.pn F⟩
    refine ⟨_, rfl, p, 2, rfl, hR, by decide, by decide, fun H1 d1 e1 d10 d11 => ⟨rfl, _, rfl, ifEq (fun c0 => ?_) (fun c0 => ?_)⟩⟩
    · refine ⟨_, rfl, p, 3, rfl, e1.rng, by decide, by decide, fun H2 m e2 m0 m1 => ?_⟩
      refine ⟨_, rfl, _, _, rfl, rfl, _, rfl, _, _, rfl, rfl, (by show 2 ≤ sizeLine; decide), fun l hl => ⟨rfl, rfl, fun x dx hx hdx hne => ?_⟩⟩
      have hl2 : upd (upd (upd H2 l (.lst [.int (1 + m), .int (2 + m)])) dx (.own x)) x (.ins A.Curve dx []) l = some (.lst [.int (1 + m), .int (2 + m)]) := by
        rw [upd_ne (ne_of_none upd_same hx), upd_ne (ne_of_none upd_same hdx)]; exact upd_same
      refine ⟨x, dx, l, [1 + m, 2 + m], 1, 1, rfl, upd_same, SqL.of hl2, ok_up m0 (by omega), fun H3 dx' l' keep hl' c1 c2 => ⟨rfl, ?_⟩⟩
      obtain ⟨z1, z2, z3, z4, z5, z6, z7, z8⟩ := fin H2 H3 l x dx dx' l' [1 + m, 2 + m] 1 1 none (e1.trans e2) hl hx hdx hne (ok_up m0 (by omega)) (first_up m0) keep hl' c1 c2
      refine ⟨(by show 2 ≤ sizeLine; decide), fun t ht => ?_⟩
      exact k _ t x l' _ _ _ none .non (z1.new ht) (z1.free ht) upd_same z2 z3 (z4.same (Same.upd (Same.refl _) ht)) z5 z6 z7 z8 (.inl ⟨rfl, rfl⟩)
    · refine ⟨_, rfl, p, 3, rfl, e1.rng, by decide, by decide, fun H2 m e2 m0 m1 => ⟨_, _, rfl, rfl, (by show 3 ≤ sizeLine; decide), fun l hl => fun x dx hx hdx hne => ?_⟩⟩
      have hl2 : upd (upd (upd H2 l (.lst [.int 1, .int 2, .int (4 + m)])) dx (.own x)) x (.ins A.Curve dx []) l = some (.lst [.int 1, .int 2, .int (4 + m)]) := by
        rw [upd_ne (ne_of_none upd_same hx), upd_ne (ne_of_none upd_same hdx)]; exact upd_same
      refine ⟨x, dx, l, [1, 2, 4 + m], 1, 0, rfl, upd_same, SqL.of hl2, ok_brk m0 (by omega), fun H3 dx' l' keep hl' c1 c2 => ⟨rfl, ?_⟩⟩
      obtain ⟨z1, z2, z3, z4, z5, z6, z7, z8⟩ := fin H2 H3 l x dx dx' l' [1, 2, 4 + m] 1 0 (some (1, 2)) (e1.trans e2) hl hx hdx hne (ok_brk m0 (by omega)) (first_brk m0) keep hl' c1 c2
      refine ⟨(by show 2 ≤ sizeLine; decide), fun t2 ht2 => ⟨(by show 2 ≤ sizeLine; decide), fun t ht => ?_⟩⟩
      have w1 := z1.new (o := .tup [.int 1, .int 2]) ht2
      have w2 : upd H3 t2 (.tup [.int 1, .int 2]) t2 = some (.tup [.int 1, .int 2]) := upd_same
      exact k _ t x l' _ _ _ (some (1, 2)) (.ref t2) (w1.new ht) (w1.free ht) upd_same z2 z3 ((z4.same (Same.upd (Same.refl _) ht2)).same (Same.upd (Same.refl _) ht)) z5 z6 z7 z8 (.inr ⟨rfl, t2, rfl, z1.free ht2, by rw [upd_ne (ne_of_none w2 ht)]; exact w2⟩)
end
end VK


namespace VK
open PySem PySem.Spec PyProof.Rows L2 VM
/-- a drawn record: where it is wrong, whatever becomes of what lies in S -/
structure RecS (K : PySem.W.Frag) (H : Hp) (S : List Addr) (v : V) (o : Option Nat) (d : PyData) (n : String) : Prop where
  at_ : ∀ H', Ex S H H' → RecAt K H' v o
  lf : Lf K H S 0 2 6000 v d n
  bd : ∀ i, o = some i → i ≤ 10
theorem RecS.ex {K : PySem.W.Frag} {H H' : Hp} {S : List Addr} {v : V} {o : Option Nat} {d : PyData} {n : String} (h : RecS K H S v o d n) (e : Ex S H H') : RecS K H' S v o d n := ⟨fun G s => h.at_ G (e.trans s), h.lf.ex e, h.bd⟩
theorem ixn {n j : Nat} (h : j < n) : ixN n (j : Int) = some j := by
  unfold ixN
  rw [if_pos (by omega), if_pos (by omega), Int.toNat_natCast]
def oV : Option Nat → V
  | none => .non
  | some i => .int i
theorem Lf.sub {K : PySem.W.Frag} {H : Hp} {S S' : List Addr} {B : Int} {k L : Nat} {v : V} {d : PyData} {n : String} (h : Lf K H S B k L v d n) (i : ∀ a ∈ S', a ∈ S) : Lf K H S' B k L v d n :=
  ⟨fun G s => h.kd G (s.mono i), fun G s => h.dm G (s.mono i), h.sz, h.bd⟩
theorem lfs_all {K : PySem.W.Frag} {H : Hp} {S : List Addr} {B : Int} : ∀ {xs : List V}, (∀ x ∈ xs, ∃ d n, Lf K H S B 1 200 x d n) → ∃ ds : List PyData, (∀ H', Ex S H H' → VQ.DmAll K H' xs ds) ∧ (∀ d ∈ ds, VR.Sz 1 200 d) ∧ ds.length = xs.length
  | [], _ => ⟨[], fun _ _ => .nil, (fun d h => by cases h), rfl⟩
  | x :: xs, h => by
    obtain ⟨d, n, q⟩ := h x (List.mem_cons_self ..)
    obtain ⟨ds, a, b, c⟩ := lfs_all (xs := xs) fun y hy => h y (List.mem_cons_of_mem _ hy)
    refine ⟨d :: ds, fun G s => .cons (q.dm G s) (a G s), fun e he => ?_, by rw [List.length_cons, c]; rfl⟩
    rcases List.mem_cons.mp he with rfl | he
    · exact q.sz
    · exact b e he
theorem RecS.good {K : PySem.W.Frag} {G : Hp} {p l : Addr} {ns : List Int} (h : G l = some (.lst (ns.map V.int))) (n : l ≠ p) (hn : ns.length ≤ 7) (R : ∀ x ∈ ns, 0 ≤ x ∧ x ≤ 3) : ∃ d, RecS K G [p] (.ref l) none d "list" := by
  have ha : l ∉ [p] := by simpa using n
  obtain ⟨ds, a, b, c⟩ := lfs_all (K := K) (H := G) (S := [p]) (B := 0) (xs := ns.map V.int) fun x hx => by
    obtain ⟨i, hi, rfl⟩ := List.mem_map.mp hx
    have := R i hi
    exact ⟨_, _, Lf.int (by omega) (by decide)⟩
  refine ⟨_, fun G' e => ⟨l, ns, rfl, SqL.of (e _ _ ha h), by omega, fun i hi => ?_⟩, Lf.lst h ha a b (show ds.length ≤ 8 by rw [c, List.length_map]; omega) (by omega) (by omega), fun i z => nomatch z⟩
  rw [List.getD_eq_getElem?_getD, List.getElem?_eq_getElem hi]
  exact (R _ (List.getElem_mem hi)).1
theorem RecS.bad {K : PySem.W.Frag} {G : Hp} {p l : Addr} {xs : List V} {i : Nat} {y : V} {dy : PyData} {ny : String} (h : G l = some (.lst xs)) (n : l ≠ p) (hn : xs.length ≤ 8) (hx : ∀ x ∈ xs, ∃ d n, Lf K G [p] 0 1 200 x d n)
    (low : ∀ j x, j < i → xs[j]? = some x → ∃ u : Int, x = .int u ∧ 0 ≤ u) (hy : xs[i]? = some y) (ly : Lf K G [p] 0 1 200 y dy ny) (hc : cnt y = false) : ∃ d, RecS K G [p] (.ref l) (some i) d "list" := by
  have ha : l ∉ [p] := by simpa using n
  obtain ⟨ds, a, b, c⟩ := lfs_all hx
  exact ⟨_, fun G' e => .inr ⟨l, xs, y, ny, rfl, SqL.of (e _ _ ha h), low, hy, (ly.ex e).kds, hc⟩, Lf.lst h ha a b (show ds.length ≤ 8 by rw [c]; omega) (by omega) (by omega), fun j z => by cases z; have := (List.getElem?_eq_some_iff.mp hy).1; omega⟩
theorem RecS.odd {K : PySem.W.Frag} {G : Hp} {p : Addr} {v : V} {d : PyData} {n : String} (h : Lf K G [p] 0 2 6000 v d n) (hn : n ≠ "list") : RecS K G [p] v (some 0) d n :=
  ⟨fun G' e => .inl ⟨rfl, n, h.kd G' e, hn⟩, h, fun i z => by cases z; decide⟩
def sp_l_record (K : PySem.W.Frag) (_ : Ad) : Sp := fun vs H Q _ => ∃ (p : Addr), vs = [.ref p] ∧ Rng H p ∧
  ∀ H' t v o d n, Ext p H H' → H t = none → H' t = some (.tup [v, oV o]) → RecS K H' [p] v o d n → Q (.ref t) H'
section
variable {P : Program} {w : World} {K : PySem.W.Frag} {mg : Str → Option Value} {base : Heap} {A : Ad}
theorem ok_l_record (T : Txt K mg A) : FnOk P w K mg base CX0 4 A.f_l_record A.d_l_record ["_law_rng_here"] (sp_l_record K A) := by
  have G_l_choice := ok_l_choice (P := P) (w := w) (base := base) T
  have G_l_draw := ok_l_draw (P := P) (w := w) (base := base) T
  have G_l_odd := ok_l_odd (P := P) (w := w) (base := base) T
  refine T.F_l_record.ok sc_l_record (fun vs H Q E h => ?_) (fun cdv A0 outer s H vs Q E hr h => ?_)
  · obtain ⟨p, rfl, hR, k⟩ := h
    rfl
  · obtain ⟨p, rfl, hR, k⟩ := h
    refine ⟨_, (pss_cons (ps_setLc (i := 1) (own := [("_law_k", 4)]) (g := gName 4) (tt := tYes) rfl sc_l_record.nd rfl rfl (sw_true rfl rfl rfl (by decide +kernel)) (pi_range1 rfl T.range (pa_cons (pe_call G_l_draw (hr.mono (by decide)) rfl T.m_l_draw T.k_l_draw T.b_l_draw .nil pass0 (pa_cons (pv 0) (pa_cons pe_int pa_nil))) pa_nil)) (blkOk_by (own := [("_law_k", 4)]) (N := ["_law_rng_here", "_law_found", "_law_way", "_law_at", "_law_k"]) (sc := defScope s_l_record) (by decide +kernel)) (fun _ _ _ _ _ => pg_name (i := 4) sc_l_record.nd rfl (by first | exact Or.inl rfl | exact Or.inr rfl)) (fun _ _ _ _ _ => pts_nil) (fun _ _ _ _ _ => (pe_call G_l_draw (hr.mono (by decide)) rfl T.m_l_draw T.k_l_draw T.b_l_draw .nil pass0 (pa_cons (pv 0) (pa_cons pe_int pa_nil)))))
    (pss_cons (ps_set (i := 2) sc_l_record.nd rfl (by first | exact Or.inl rfl | exact Or.inr rfl) (pe_call G_l_draw (hr.mono (by decide)) rfl T.m_l_draw T.k_l_draw T.b_l_draw .nil pass0 (pa_cons (pv 0) (pa_cons pe_int pa_nil))))
    (pss_cons (ps_if (pt_cmpR op_eq (pv 2) pe_int (nomark _)) (pss_one (ps_ret (pe_tup (pa_cons (pe_call G_l_choice (hr.mono (by decide)) rfl T.m_l_choice T.k_l_choice T.b_l_choice .nil pass0 (pa_cons (pv 0) (pa_cons (pe_lst (pa_cons pe_non (pa_cons (pe_callTy call_tuple_of (by rfl) T.tuple (by decide +kernel) (pa_cons (pv 1) pa_nil)) (pa_cons pe_str (pa_cons pe_int (pa_cons pe_dnewK (pa_cons pe_bl pa_nil))))))) pa_nil))) (pa_cons pe_int pa_nil))))) pss_nil)
    (pss_cons (ps_if (PW.pt (pw_and (pt_cmpR op_eq (pv 2) pe_int (nomark _)) (pw_and1 (pt_cmpR (VB.op_neNil hr.units) (pv 1) (pe_lst pa_nil) (nomark _))))) (pss_cons (ps_set (i := 3) sc_l_record.nd rfl (by first | exact Or.inl rfl | exact Or.inr rfl) (pe_call G_l_draw (hr.mono (by decide)) rfl T.m_l_draw T.k_l_draw T.b_l_draw .nil pass0 (pa_cons (pv 0) (pa_cons (pe_callB (r := VG.rLen K) VG.call_len (by rfl) T.len (by decide +kernel) (pa_cons (pv 1) pa_nil)) pa_nil))))
    (pss_cons (ps_asg (pe_call G_l_odd (hr.mono (by decide)) rfl T.m_l_odd T.k_l_odd T.b_l_odd .nil pass0 (pa_cons (pv 0) pa_nil)) (pg_sub (pv 1) (pv 3) set_list))
    (pss_cons (ps_if (pt_cmpR op_eq (pe_call G_l_draw (hr.mono (by decide)) rfl T.m_l_draw T.k_l_draw T.b_l_draw .nil pass0 (pa_cons (pv 0) (pa_cons pe_int pa_nil))) pe_int (nomark _)) (pss_one (ps_set (i := 1) sc_l_record.nd rfl (by first | exact Or.inl rfl | exact Or.inr rfl) (pe_op op_cat (pv 1) (pe_lst (pa_cons (pe_un un_neg pe_int) pa_nil))))) pss_nil)
    (pss_one (ps_ret (pe_tup (pa_cons (pv 1) (pa_cons (pv 3) pa_nil)))))))) pss_nil)
    (pss_one (ps_ret (pe_tup (pa_cons (pv 1) (pa_cons pe_non pa_nil))))))))), ?_⟩
    refine ⟨_, rfl, p, 7, rfl, hR, by decide, by decide, fun H1 m e1 m0 m1 => ⟨_, rfl, by omega, by omega, fun D hD => ?_⟩⟩
    have nDp : D ≠ p := e1.rng.ne hD
    refine lc_range (lo := 0) (n := m.toNat) (fun j H2 => ∃ ns : List Int, H2 D = some (.lst (ns.map V.int)) ∧ ns.length = j ∧ (∀ x ∈ ns, 0 ≤ x ∧ x ≤ 3) ∧ Ext p H H2)
      ⟨[], upd_same, rfl, (fun x hx => by cases hx), e1.new hD⟩ ?_ ?_
    · rintro j H2 hj ⟨ns, hD2, hn, R, e2⟩
      refine ⟨rfl, _, rfl, p, 4, rfl, e2.rng, by decide, by decide, fun H3 d e3 d0 d1 => ⟨_, e3.keep _ _ nDp hD2, small (by rw [List.length_map]; omega), ns ++ [d], ?_, by rw [List.length_append, hn]; rfl, fun x hx => ?_, ?_⟩⟩
      · rw [upd_same, List.map_append]; rfl
      · rcases List.mem_append.mp hx with hx | hx
        · exact R x hx
        · rw [List.mem_singleton] at hx; omega
      · exact (e2.trans e3).put (e1.free hD) nDp
    · rintro H2 ⟨ns, hD2, hn, R, e2⟩
      have hn7 : ns.length ≤ 7 := by omega
      refine ⟨_, rfl, p, 4, rfl, e2.rng, by decide, by decide, fun H3 w e3 w0 w1 => ?_⟩
      have hD3 := e3.keep _ _ nDp hD2
      have e03 := e2.trans e3
      refine ⟨_, rfl, rfl, _, rfl, ifEq (fun c0 => ?_) (fun c0 => ?_)⟩
      · refine ⟨_, rfl, _, rfl, D, _, rfl, .inl ⟨SqL.of hD3, fun a ha => ?_⟩⟩
        intro y hy
        refine ⟨(by show 6 ≤ sizeLine; decide), fun q hq => ?_⟩
        have nap : a ≠ p := e03.rng.ne ha
        have ya : upd H3 a (.tup (ns.map V.int)) a = some (.tup (ns.map V.int)) := upd_same
        have ea : Ext p H (upd H3 a (.tup (ns.map V.int))) := e03.new ha
        have nay : a ≠ y := ne_of_none ya hy
        have nyp : y ≠ p := ea.rng.ne hy
        have ey : Ext p H (upd (upd H3 a (.tup (ns.map V.int))) y (.dK [])) := ea.new hy
        have y1 : upd (upd H3 a (.tup (ns.map V.int))) y (.dK []) a = some (.tup (ns.map V.int)) := by rw [upd_ne nay]; exact ya
        have y2 : upd (upd H3 a (.tup (ns.map V.int))) y (.dK []) y = some (.dK []) := upd_same
        generalize upd (upd H3 a (.tup (ns.map V.int))) y (.dK []) = H4 at *
        have eq : Ext p H (upd H4 q (.lst [.non, .ref a, .str "12", .int 3, .ref y, .bl true])) := ey.new hq
        refine ⟨p, q, _, rfl, eq.rng, SqL.of upd_same, ey.rng.ne hq, by show 0 < 6; decide, by show 6 < 1000000; decide, fun H5 v e5 hv => ⟨(by show 2 ≤ sizeLine; decide), fun t ht => ?_⟩⟩
        have w1 := e5.keep _ _ nap (by rw [upd_ne (ne_of_none y1 hq)]; exact y1)
        have w2 := e5.keep _ _ nyp (by rw [upd_ne (ne_of_none y2 hq)]; exact y2)
        have e05 := eq.trans e5
        have na : a ∉ [p] := by simpa using nap
        have ny : y ∉ [p] := by simpa using nyp
        have fin : ∀ d n, Lf K H5 [p] 0 2 6000 v d n → n ≠ "list" → Q (.ref t) (upd H5 t (.tup [v, .int 0])) := fun d n lf hn => k _ t v (some 0) d n (e05.new ht) (e05.free ht) upd_same ((RecS.odd lf hn).ex (Ex.same (Same.upd (Same.refl _) ht)))
        obtain ⟨ds, d1, d2, d3⟩ := lfs_all (K := K) (H := H5) (S := [p]) (B := 0) (xs := ns.map V.int) fun x hx => by
          obtain ⟨i, hi, rfl⟩ := List.mem_map.mp hx
          have := R i hi
          exact ⟨_, _, Lf.int (by omega) (by decide)⟩
        simp only [List.mem_cons, List.not_mem_nil, or_false] at hv
        rcases hv with rfl | rfl | rfl | rfl | rfl | rfl
        · exact fin _ _ (Lf.non.mono (Int.le_refl _) (by omega) (by omega)) (by decide)
        · exact fin _ _ (Lf.tup w1 na d1 d2 (show ds.length ≤ 8 by rw [d3, List.length_map]; omega) (by omega) (by omega)) (by decide)
        · exact fin _ _ ((Lf.str (by decide +kernel)).mono (Int.le_refl _) (by omega) (by omega)) (by decide)
        · exact fin _ _ ((Lf.int (by omega) (by decide)).mono (Int.le_refl _) (by omega) (by omega)) (by decide)
        · exact fin _ _ ((Lf.dct0 w2 ny).mono (Int.le_refl _) (by omega) (by omega)) (by decide)
        · exact fin _ _ ((Lf.bl true (by omega)).mono (Int.le_refl _) (by omega) (by omega)) (by decide)
      have plain : ∀ t, H3 t = none → Q (.ref t) (upd H3 t (.tup [.ref D, .non])) := fun t ht => by
        obtain ⟨d, hd⟩ := RecS.good (K := K) (G := H3) hD3 nDp hn7 R
        exact k _ t _ none d _ (e03.new ht) (e03.free ht) upd_same (hd.ex (Ex.same (Same.upd (Same.refl _) ht)))
      refine ⟨_, rfl, rfl, _, rfl, ifEq (fun c1 => ?_) (fun c1 => ?_)⟩
      · refine ⟨_, rfl, (by show 0 ≤ sizeLine; decide), fun b hb => ⟨D, b, ns.map V.int, rfl, rfl, SqL.of (by rw [upd_ne (ne_of_none hD3 hb)]; exact hD3), SqL.of upd_same, _, rfl, ifD (fun c2 => ?_) (fun c2 => ?_)⟩⟩
        · have eb : Ext p H (upd H3 b (.lst [])) := e03.new hb
          have hDb : upd H3 b (.lst []) D = some (.lst (ns.map V.int)) := by rw [upd_ne (ne_of_none hD3 hb)]; exact hD3
          generalize upd H3 b (.lst []) = H4 at *
          have nl : 0 < ns.length := by
            have := List.length_pos_iff.mpr c2
            rwa [List.length_map] at this
          refine ⟨_, rfl, _, rfl, D, _, rfl, .inl (SqL.of hDb), p, _, rfl, eb.rng, (by rw [List.length_map]; omega), (by rw [List.length_map]; omega), fun H5 i e5 i0 i1 => ?_⟩
          rw [List.length_map] at i1
          have hD5 := e5.keep _ _ nDp hDb
          have e05 := eb.trans e5
          refine ⟨_, rfl, p, [p, D], rfl, e5.rng, ?_, by simp, fun H6 y dy ny e6 lfy hcy => ?_⟩
          · intro a ha
            simp only [List.mem_cons, List.not_mem_nil, or_false] at ha
            rcases ha with rfl | rfl
            · obtain ⟨_, _, z, _⟩ := e5.rng; rw [z]; simp
            · rw [hD5]; simp
          have hD6 := e6.keep _ _ nDp hD5
          have e06 := e05.trans e6
          obtain ⟨j, rfl⟩ : ∃ j : Nat, i = (j : Int) := ⟨i.toNat, by omega⟩
          have hj : j < ns.length := by omega
          refine ⟨_, rfl, _, rfl, D, _, j, j, rfl, rfl, hD6, ixn (by rw [List.length_map]; exact hj), ?_⟩
          have x6 : Ex [p, D] H6 (upd H6 D (.lst ((ns.map V.int).set j y))) := Ex.put (by simp)
          have lf7 : Lf K (upd H6 D (.lst ((ns.map V.int).set j y))) [p] 0 1 200 y dy ny := (lfy.ex x6).sub (fun a ha => by simp only [List.mem_cons, List.not_mem_nil, or_false] at ha ⊢; exact .inl ha)
          have e07 : Ext p H (upd H6 D (.lst ((ns.map V.int).set j y))) := e06.put (e1.free hD) nDp
          have hD7 : upd H6 D (.lst ((ns.map V.int).set j y)) D = some (.lst ((ns.map V.int).set j y)) := upd_same
          have low : ∀ m x, m < j → ((ns.map V.int).set j y)[m]? = some x → ∃ u : Int, x = .int u ∧ 0 ≤ u := fun m x hm e => by
            rw [List.getElem?_set_ne (by omega)] at e
            obtain ⟨hi, rfl⟩ := nth_map e
            refine ⟨_, rfl, ?_⟩
            rw [List.getD_eq_getElem?_getD, List.getElem?_eq_getElem hi]
            exact (R _ (List.getElem_mem hi)).1
          have atj : ((ns.map V.int).set j y)[j]? = some y := List.getElem?_set_self (by rw [List.length_map]; exact hj)
          have mem : ∀ x ∈ (ns.map V.int).set j y, ∃ d n, Lf K (upd H6 D (.lst ((ns.map V.int).set j y))) [p] 0 1 200 x d n := fun x hx => by
            rcases List.mem_or_eq_of_mem_set hx with hx | rfl
            · obtain ⟨u, hu, rfl⟩ := List.mem_map.mp hx
              have := R u hu
              exact ⟨_, _, Lf.int (by omega) (by decide)⟩
            · exact ⟨_, _, lf7⟩
          have len : ((ns.map V.int).set j y).length = ns.length := by rw [List.length_set, List.length_map]
          generalize (ns.map V.int).set j y = xs at *
          generalize upd H6 D (.lst xs) = H7 at *
          refine ⟨_, rfl, p, 2, rfl, e07.rng, by decide, by decide, fun H8 d8 e8 d80 d81 => ⟨rfl, _, rfl, ifEq (fun c3 => ?_) (fun c3 => ?_)⟩⟩
          · have hD8 := e8.keep _ _ nDp hD7
            have e08 := e07.trans e8
            have xp : Ex [p] H7 H8 := Ex.ext e8 (by simp)
            refine ⟨_, rfl, _, rfl, (by show 1 ≤ sizeLine; decide), fun a ha => ?_⟩
            have h9 : upd H8 a (.lst [.int (-5)]) D = some (.lst xs) := by rw [upd_ne (ne_of_none hD8 ha)]; exact hD8
            have e9 : Ext p H (upd H8 a (.lst [.int (-5)])) := e08.new ha
            have xp9 : Ex [p] H7 (upd H8 a (.lst [.int (-5)])) := xp.trans (Ex.same (Same.upd (Same.refl _) ha))
            refine ⟨D, a, _, _, rfl, rfl, h9, upd_same, (by rw [len, sizeLine_eq]; show ns.length + 1 ≤ _; omega), fun b hb => ?_⟩
            generalize upd H8 a (.lst [.int (-5)]) = H9 at *
            have e10 : Ext p H (upd H9 b (.lst (xs ++ [.int (-5)]))) := e9.new hb
            have nbp : b ≠ p := e9.rng.ne hb
            have xp10 : Ex [p] H7 (upd H9 b (.lst (xs ++ [.int (-5)]))) := xp9.trans (Ex.same (Same.upd (Same.refl _) hb))
            have hb10 : upd H9 b (.lst (xs ++ [.int (-5)])) b = some (.lst (xs ++ [.int (-5)])) := upd_same
            have jl : j < xs.length := by omega
            obtain ⟨d, hd⟩ := RecS.bad (K := K) (i := j) (y := y) hb10 nbp (by rw [List.length_append, len]; show ns.length + 1 ≤ 8; omega) (fun x hx => by
              rcases List.mem_append.mp hx with hx | hx
              · obtain ⟨d, n, q⟩ := mem x hx; exact ⟨d, n, q.ex xp10⟩
              · rw [List.mem_singleton] at hx; subst hx; exact ⟨_, _, Lf.int (by omega) (by decide)⟩) (fun m x hm e => by
              rw [List.getElem?_append_left (by omega)] at e
              exact low m x hm e) (by rw [List.getElem?_append_left jl]; exact atj) (lf7.ex xp10) hcy
            refine ⟨_, rfl, _, rfl, (by show 2 ≤ sizeLine; decide), fun t ht => ?_⟩
            exact k _ t _ (some j) d _ (e10.new ht) (e10.free ht) upd_same (hd.ex (Ex.same (Same.upd (Same.refl _) ht)))
          · have hD8 := e8.keep _ _ nDp hD7
            have e08 := e07.trans e8
            have xp : Ex [p] H7 H8 := Ex.ext e8 (by simp)
            obtain ⟨d, hd⟩ := RecS.bad (K := K) (i := j) (y := y) hD8 nDp (by omega) (fun x hx => by
              obtain ⟨d, n, q⟩ := mem x hx; exact ⟨d, n, q.ex xp⟩) low atj (lf7.ex xp) hcy
            refine ⟨_, rfl, _, rfl, (by show 2 ≤ sizeLine; decide), fun t ht => ?_⟩
            exact k _ t _ (some j) d _ (e08.new ht) (e08.free ht) upd_same (hd.ex (Ex.same (Same.upd (Same.refl _) ht)))
        · have eb : Ext p H (upd H3 b (.lst [])) := e03.new hb
          have hDb : upd H3 b (.lst []) D = some (.lst (ns.map V.int)) := by rw [upd_ne (ne_of_none hD3 hb)]; exact hD3
          refine ⟨_, rfl, (by show 2 ≤ sizeLine; decide), fun t ht => ?_⟩
          obtain ⟨d, hd⟩ := RecS.good (K := K) (G := upd H3 b (.lst [])) hDb nDp hn7 R
          exact k _ t _ none d _ (eb.new ht) (eb.free ht) upd_same (hd.ex (Ex.same (Same.upd (Same.refl _) ht)))
      · exact ⟨_, rfl, (by show 2 ≤ sizeLine; decide), plain⟩
end
end VK


namespace VK
open PySem PySem.Spec PyProof.Rows L2 VM
/-- how a call ends -/
inductive Out where
  | fine
  | recd (i : Nat)
  | leng (v : V)
  | coun (v : V)
  | brk (a b : Int)
/-- what is raised then, the heap being one of R -/
def Raised (A : Ad) (R : Hp → Prop) (E : XK) : Out → Prop
  | .fine => True
  | .recd i => ∀ H' d, R H' → H' d = some (.xd [("position", .int i)]) → E (.ref A.InvalidRecord) (some d) H'
  | .leng v => ∀ H' d, R H' → H' d = some (.xd [("value", v)]) → E (.ref A.InvalidLength) (some d) H'
  | .coun v => ∀ H' d, R H' → H' d = some (.xd [("value", v)]) → E (.ref A.InvalidCount) (some d) H'
  | .brk a b => ∀ H' d, R H' → H' d = some (.xd [("second", .int b), ("first", .int a)]) → E (.ref A.NotGood) (some d) H'
theorem cnt_int {q : Int} (h : 0 ≤ q) : cnt (.int q) = true := by unfold cnt; exact decide_eq_true h
def oR : Option Nat → Out → Out
  | none, x => x
  | some i, _ => .recd i
def oB : Option (Int × Int) → Out → Out
  | none, x => x
  | some (a, b), _ => .brk a b
theorem ifS {a b : Str} {X Y : Prop} (h1 : a = b → X) (h2 : a ≠ b → Y) : if decide (V.str a = V.str b) = true then X else Y := by
  by_cases e : a = b
  · subst e
    rw [decide_eq_true rfl, if_pos rfl]
    exact h1 rfl
  · rw [decide_eq_false (fun z => e (V.str.inj z)), if_neg Bool.false_ne_true]
    exact h2 e
theorem kb_queue {K : PySem.W.Frag} {mg : Str → Option Value} {A : Ad} (T : Txt K mg A) : ∃ mv : List Value, KBn K A.d_P_init ["self", "curve", "queue"] 2 ["queue"] (fun us ws => us ++ ws) (fun vs zs => vs ++ zs) := by
  obtain ⟨mv, h⟩ := T.F_P_init.kbinds0 (ps := ["self", "curve", "queue"]) 2 ["queue"] [] (fun us _ ws => us ++ ws) (by simp) (by simp) (fun a _ c => a.append c)
    (fun D doc pm an cdv ct us mv ws h1 h2 h3 => match us, mv, ws, h1, h2, h3 with | [_, _], [], [_], _, _, _ => rfl)
  exact ⟨mv, h⟩
theorem kb_leak {K : PySem.W.Frag} {mg : Str → Option Value} {A : Ad} (T : Txt K mg A) : ∃ mv : List Value, KBn K A.d_P_step ["self", "units", "leak", "closed"] 2 ["leak"] (fun us ws => us ++ (ws ++ mv)) (fun vs zs => vs ++ (zs ++ [V.bl false])) := by
  obtain ⟨mv, h⟩ := T.F_P_step.kbinds0 (ps := ["self", "units", "leak", "closed"]) 2 ["leak"] [("closed", .bl false)] (fun us mv ws => us ++ (ws ++ mv)) (by simp) (by simp) (fun a b c => a.append (c.append b))
    (fun D doc pm an cdv ct us mv ws h1 h2 h3 => match us, mv, ws, h1, h2, h3 with | [_, _], [_], [_], _, _, _ => ⟨_, _, _, _, _, _, rfl, rfl, rfl⟩)
  exact ⟨mv, h⟩
/-- the curve at x: what is known of it -/
structure CvF (A : Ad) (H : Hp) (x l : Addr) (cs : List Int) (p g : Int) (o : Option (Int × Int)) : Prop where
  cu : CuL A H x l cs p g o
  hp : 0 < p
  hpn : p ≤ cs.length
  hn : cs.length ≤ 1000
  hB : BrkR (cvAt cs p g) cs.length o
/-- a call of a function with the record v and the curve at x -/
def CallC (K : PySem.W.Frag) (A : Ad) (H : Hp) (x : Addr) (o : Option (Int × Int)) (w : Str) (xs : List V) (out : Out) : Prop :=
  (w = "most_in" ∧ ∃ v r u n, xs = [v, u] ∧ RecAt K H v r ∧ KdS K H u n ∧ out = oR r (if cnt u then .fine else .leng u)) ∨
  (w = "keeps" ∧ ∃ v r, xs = [v, .ref x] ∧ RecAt K H v r ∧ out = oR r .fine) ∨
  (w = "breach" ∧ ∃ v r, xs = [v, .ref x] ∧ RecAt K H v r ∧ out = oR r .fine) ∨
  (w = "tightest" ∧ ∃ v r, xs = [v] ∧ RecAt K H v r ∧ out = oR r .fine) ∨
  (w = "greedy" ∧ ∃ u n, xs = [.ref x, u] ∧ (∀ H', But x H H' → Kd K H' u n) ∧ out = oB o (if cntTo 400 u then .fine else .coun u)) ∨
  (w = "shaped" ∧ ∃ v r, xs = [v, .ref x] ∧ RecAt K H v r ∧ out = oR r (oB o .fine)) ∨
  (w = "police" ∧ ∃ u n, xs = [.ref x, u] ∧ (∀ H', But x H H' → Kd K H' u n) ∧ out = oB o (if cnt u then .fine else .coun u))
/-- a step of a police that is refused -/
def CallP (K : PySem.W.Frag) (A : Ad) (H : Hp) (w : Str) (xs : List V) (out : Out) : Prop :=
  w = "step" ∧ ∃ (x c lc : Addr) (cs : List Int) (p g q h r : Int) (cl : Bool) (es : List Int) (dx le ll : Addr) (u k : V) (m1 m2 : String), xs = [.ref x, u, k] ∧
    PolAt A H x c lc cs p g q h r cl es dx le ll ∧ 0 < p ∧ p ≤ cs.length ∧ cs.length ≤ 1000 ∧ es.length ≤ 900 ∧ Kd K H u m1 ∧ Kd K H k m2 ∧
    (cnt u = false ∧ out = .coun u ∨ cnt u = true ∧ cnt k = false ∧ out = .coun k)
/-- either of them, R holding of the heap behind it -/
def Calls (K : PySem.W.Frag) (A : Ad) (H : Hp) (w : Str) (xs : List V) (out : Out) (R : Hp → Prop) : Prop :=
  (∃ x l cs p g o, CvF A H x l cs p g o ∧ CallC K A H x o w xs out ∧ ∀ H', But x H H' → CuL A H' x l cs p g o → R H') ∨ (CallP K A H w xs out ∧ ∀ H', Same H H' → R H')
def sp_l_called (K : PySem.W.Frag) (A : Ad) : Sp := fun vs H Q E => ∃ (w : Str) (la : Addr) (xs : List V) (out : Out) (R : Hp → Prop), vs = [.str w, .ref la] ∧ SqL K H la xs ∧ Calls K A H w xs out R ∧
  (out = .fine → ∀ H' v, R H' → Q v H') ∧ Raised A R E out
section
variable {P : Program} {w : World} {K : PySem.W.Frag} {mg : Str → Option Value} {base : Heap} {A : Ad}
theorem ok_l_called (T : Txt K mg A) : FnOk P w K mg base (L2.CX P w) 9 A.f_l_called A.d_l_called ["_law_word", "_law_some"] (sp_l_called K A) := by
  have G_P_init := ok_P_init (P := P) (w := w) (base := base) T
  have G_P_step := ok_P_step (P := P) (w := w) (base := base) T
  have G_breach := ok_breach (P := P) (w := w) (base := base) T
  have G_greedy := ok_greedy (P := P) (w := w) (base := base) T
  have G_keeps := ok_keeps (P := P) (w := w) (base := base) T
  have G_most_in := ok_most_in (P := P) (w := w) (base := base) T
  have G_shaped := ok_shaped (P := P) (w := w) (base := base) T
  have G_tightest := ok_tightest (P := P) (w := w) (base := base) T
  obtain ⟨mv1, kb_Police_queue⟩ := kb_queue T
  obtain ⟨mv2, kb_P_step_leak⟩ := kb_leak T
  refine T.F_l_called.okX sc_l_called (fun vs H Q E h => ?_) (fun cdv A0 outer s H vs Q E hr h => ?_)
  · obtain ⟨wd, la, xs, out, R, rfl, hL, hC, k, ke⟩ := h
    rfl
  · obtain ⟨wd, la, xs, out, R, rfl, hL, hC, k, ke⟩ := h
    refine ⟨_, (pss_cons (ps_if (pt_cmpR op_eq (pv 0) pe_str (nomark _)) (pss_one (ps_ret (pe_call G_most_in (hr.mono (by decide)) rfl T.m_most_in T.k_most_in T.b_most_in .nil (passes_call (takes_of rfl rfl rfl rfl) (fun _ _ _ _ h => h)) (pa_cons (pe_ix (r := rIxL K) ix_list (pv 1) pe_int (fun _ _ => rfl)) (pa_cons (pe_ix (r := rIxL K) ix_list (pv 1) pe_int (fun _ _ => rfl)) pa_nil))))) pss_nil)
    (pss_cons (ps_if (pt_cmpR op_eq (pv 0) pe_str (nomark _)) (pss_one (ps_ret (pe_call G_keeps (hr.mono (by decide)) rfl T.m_keeps T.k_keeps T.b_keeps .nil (passes_call (takes_of rfl rfl rfl rfl) (fun _ _ _ _ h => h)) (pa_cons (pe_ix (r := rIxL K) ix_list (pv 1) pe_int (fun _ _ => rfl)) (pa_cons (pe_ix (r := rIxL K) ix_list (pv 1) pe_int (fun _ _ => rfl)) pa_nil))))) pss_nil)
    (pss_cons (ps_if (pt_cmpR op_eq (pv 0) pe_str (nomark _)) (pss_one (ps_ret (pe_call G_breach (hr.mono (by decide)) rfl T.m_breach T.k_breach T.b_breach .nil (passes_call (takes_of rfl rfl rfl rfl) (fun _ _ _ _ h => h)) (pa_cons (pe_ix (r := rIxL K) ix_list (pv 1) pe_int (fun _ _ => rfl)) (pa_cons (pe_ix (r := rIxL K) ix_list (pv 1) pe_int (fun _ _ => rfl)) pa_nil))))) pss_nil)
    (pss_cons (ps_if (pt_cmpR op_eq (pv 0) pe_str (nomark _)) (pss_one (ps_ret (pe_call G_tightest (hr.mono (by decide)) rfl T.m_tightest T.k_tightest T.b_tightest .nil (passes_call (takes_of rfl rfl rfl rfl) (fun _ _ _ _ h => h)) (pa_cons (pe_ix (r := rIxL K) ix_list (pv 1) pe_int (fun _ _ => rfl)) pa_nil)))) pss_nil)
    (pss_cons (ps_if (pt_cmpR op_eq (pv 0) pe_str (nomark _)) (pss_one (ps_ret (pe_call G_greedy (hr.mono (by decide)) rfl T.m_greedy T.k_greedy T.b_greedy .nil (passes_call (takes_of rfl rfl rfl rfl) (fun _ _ _ _ h => h)) (pa_cons (pe_ix (r := rIxL K) ix_list (pv 1) pe_int (fun _ _ => rfl)) (pa_cons (pe_ix (r := rIxL K) ix_list (pv 1) pe_int (fun _ _ => rfl)) pa_nil))))) pss_nil)
    (pss_cons (ps_if (pt_cmpR op_eq (pv 0) pe_str (nomark _)) (pss_one (ps_ret (pe_call G_shaped (hr.mono (by decide)) rfl T.m_shaped T.k_shaped T.b_shaped .nil (passes_call (takes_of rfl rfl rfl rfl) (fun _ _ _ _ h => h)) (pa_cons (pe_ix (r := rIxL K) ix_list (pv 1) pe_int (fun _ _ => rfl)) (pa_cons (pe_ix (r := rIxL K) ix_list (pv 1) pe_int (fun _ _ => rfl)) pa_nil))))) pss_nil)
    (pss_cons (ps_if (pt_cmpR op_eq (pv 0) pe_str (nomark _)) (pss_one (ps_ret (pe_makeK (n := 1) T.M_Police G_P_init (hr.mono (by decide)) rfl T.m_Police kb_Police_queue (passes_call (takes_of rfl rfl rfl rfl) (fun _ _ _ _ h => h)) (pa_cons (pe_ix (r := rIxL K) ix_list (pv 1) pe_int (fun _ _ => rfl)) pa_nil) (pk_cons (pe_ix (r := rIxL K) ix_list (pv 1) pe_int (fun _ _ => rfl)) pk_nil)))) pss_nil)
    (pss_one (ps_ret (VP.pe_methKw (n := 1) (pe_ix (r := rIxL K) ix_list (pv 1) pe_int (fun _ _ => rfl)) T.clPolice T.me_step G_P_step (hr.mono (by decide)) kb_P_step_leak (passes_call (takes_of rfl rfl rfl rfl) (fun _ _ _ _ h => h)) (pa_cons (pe_ix (r := rIxL K) ix_list (pv 1) pe_int (fun _ _ => rfl)) pa_nil) (pk_cons (pe_ix (r := rIxL K) ix_list (pv 1) pe_int (fun _ _ => rfl)) pk_nil))))))))))), ?_⟩
    rcases hC with ⟨x, l, cs, p, g, o, F, hC, hR⟩ | ⟨hC, hR⟩
    · obtain ⟨hcu, hp, hpn, hn, hB⟩ := F
      have sR : ∀ H', Same H H' → R H' := fun H' s => hR H' (But.of s) (hcu.same s)
      have bR : ∀ r q, out = oR r q → BadR A H E r := fun r q e => by
        cases r with
        | none => trivial
        | some i =>
          subst e
          exact fun H' d s hd => ke H' d (sR H' s) hd
      have refu : ∀ q, out = oB o q → Refu A x l cs p g H E o := fun q e => by
        cases o with
        | none => trivial
        | some ab =>
          obtain ⟨a, b⟩ := ab
          subst e
          exact fun H' d bt ct hd => ke H' d (hR H' bt ct) hd
      have koun : ∀ u, out = .coun u → ∀ H', But x H H' → CuL A H' x l cs p g o → BadV A.InvalidCount "value" u H' E := fun u e H' bt ct => by
        subst e
        exact fun H2 d s hd => ke H2 d (hR H2 (bt.trans (But.of s)) (ct.same s)) hd
      rcases hC with ⟨rfl, v, r, u, n, rfl, hr1, hk, eo⟩ | ⟨rfl, v, r, rfl, hr1, eo⟩ | ⟨rfl, v, r, rfl, hr1, eo⟩ | ⟨rfl, v, r, rfl, hr1, eo⟩ | ⟨rfl, u, n, rfl, hk, eo⟩ | ⟨rfl, v, r, rfl, hr1, eo⟩ | ⟨rfl, u, n, rfl, hk, eo⟩
      · refine ⟨_, rfl, rfl, _, rfl, ifS (fun _ => ?_) (fun e => absurd rfl e)⟩
        refine ⟨_, rfl, la, _, _, _, rfl, rfl, hL, rfl, _, rfl, la, _, _, _, rfl, rfl, hL, rfl, v, r, u, n, rfl, hr1, hk, fun z e1 H' u' s => k ?_ H' u' (sR H' s), bR r _ eo, fun z e1 => ?_⟩
        · rw [eo, z, e1]; rfl
        · rw [z, e1] at eo; subst eo; exact fun H' d s hd => ke H' d (sR H' s) hd
      · refine ⟨_, rfl, rfl, _, rfl, ifS (fun e => absurd e (by decide +kernel)) (fun _ => ?_)⟩
        refine ⟨_, rfl, rfl, _, rfl, ifS (fun _ => ?_) (fun e => absurd rfl e)⟩
        exact ⟨_, rfl, la, _, _, _, rfl, rfl, hL, rfl, _, rfl, la, _, _, _, rfl, rfl, hL, rfl, v, r, x, cs, p, g, rfl, hr1, hcu.cu.crv, hp, hpn, hn, fun z H' u' s => k (by rw [eo, z]; rfl) H' u' (sR H' s), bR r _ eo⟩
      · refine ⟨_, rfl, rfl, _, rfl, ifS (fun e => absurd e (by decide +kernel)) (fun _ => ?_)⟩
        refine ⟨_, rfl, rfl, _, rfl, ifS (fun e => absurd e (by decide +kernel)) (fun _ => ?_)⟩
        refine ⟨_, rfl, rfl, _, rfl, ifS (fun _ => ?_) (fun e => absurd rfl e)⟩
        exact ⟨_, rfl, la, _, _, _, rfl, rfl, hL, rfl, _, rfl, la, _, _, _, rfl, rfl, hL, rfl, v, r, x, cs, p, g, rfl, hr1, hcu.cu.crv, hp, hpn, hn, fun z H' u' s => k (by rw [eo, z]; rfl) H' u' (sR H' s), bR r _ eo⟩
      · refine ⟨_, rfl, rfl, _, rfl, ifS (fun e => absurd e (by decide +kernel)) (fun _ => ?_)⟩
        refine ⟨_, rfl, rfl, _, rfl, ifS (fun e => absurd e (by decide +kernel)) (fun _ => ?_)⟩
        refine ⟨_, rfl, rfl, _, rfl, ifS (fun e => absurd e (by decide +kernel)) (fun _ => ?_)⟩
        refine ⟨_, rfl, rfl, _, rfl, ifS (fun _ => ?_) (fun e => absurd rfl e)⟩
        exact ⟨_, rfl, la, _, _, _, rfl, rfl, hL, rfl, v, r, rfl, hr1, fun z H' u' s => k (by rw [eo, z]; rfl) H' u' (sR H' s), bR r _ eo⟩
      · refine ⟨_, rfl, rfl, _, rfl, ifS (fun e => absurd e (by decide +kernel)) (fun _ => ?_)⟩
        refine ⟨_, rfl, rfl, _, rfl, ifS (fun e => absurd e (by decide +kernel)) (fun _ => ?_)⟩
        refine ⟨_, rfl, rfl, _, rfl, ifS (fun e => absurd e (by decide +kernel)) (fun _ => ?_)⟩
        refine ⟨_, rfl, rfl, _, rfl, ifS (fun e => absurd e (by decide +kernel)) (fun _ => ?_)⟩
        refine ⟨_, rfl, rfl, _, rfl, ifS (fun _ => ?_) (fun e => absurd rfl e)⟩
        exact ⟨_, rfl, la, _, _, _, rfl, rfl, hL, rfl, _, rfl, la, _, _, _, rfl, rfl, hL, rfl, x, l, cs, p, g, o, u, n, rfl, hcu, hp, hpn, hn, hB, hk, fun z e1 H' u' bt ct => k (by rw [eo, z, e1]; rfl) H' u' (hR H' bt ct), fun z e1 => koun u (by rw [eo, z, e1]; rfl), refu _ eo⟩
      · refine ⟨_, rfl, rfl, _, rfl, ifS (fun e => absurd e (by decide +kernel)) (fun _ => ?_)⟩
        refine ⟨_, rfl, rfl, _, rfl, ifS (fun e => absurd e (by decide +kernel)) (fun _ => ?_)⟩
        refine ⟨_, rfl, rfl, _, rfl, ifS (fun e => absurd e (by decide +kernel)) (fun _ => ?_)⟩
        refine ⟨_, rfl, rfl, _, rfl, ifS (fun e => absurd e (by decide +kernel)) (fun _ => ?_)⟩
        refine ⟨_, rfl, rfl, _, rfl, ifS (fun e => absurd e (by decide +kernel)) (fun _ => ?_)⟩
        refine ⟨_, rfl, rfl, _, rfl, ifS (fun _ => ?_) (fun e => absurd rfl e)⟩
        exact ⟨_, rfl, la, _, _, _, rfl, rfl, hL, rfl, _, rfl, la, _, _, _, rfl, rfl, hL, rfl, v, r, x, l, cs, p, g, o, rfl, hr1, hcu, hp, hpn, hn, hB, fun z e1 H' u' bt ct => k (by rw [eo, z, e1]; rfl) H' u' (hR H' bt ct), bR r _ eo, fun z => refu .fine (by rw [eo, z]; rfl)⟩
      · refine ⟨_, rfl, rfl, _, rfl, ifS (fun e => absurd e (by decide +kernel)) (fun _ => ?_)⟩
        refine ⟨_, rfl, rfl, _, rfl, ifS (fun e => absurd e (by decide +kernel)) (fun _ => ?_)⟩
        refine ⟨_, rfl, rfl, _, rfl, ifS (fun e => absurd e (by decide +kernel)) (fun _ => ?_)⟩
        refine ⟨_, rfl, rfl, _, rfl, ifS (fun e => absurd e (by decide +kernel)) (fun _ => ?_)⟩
        refine ⟨_, rfl, rfl, _, rfl, ifS (fun e => absurd e (by decide +kernel)) (fun _ => ?_)⟩
        refine ⟨_, rfl, rfl, _, rfl, ifS (fun e => absurd e (by decide +kernel)) (fun _ => ?_)⟩
        refine ⟨_, rfl, rfl, _, rfl, ifS (fun _ => ?_) (fun e => absurd rfl e)⟩
        refine ⟨_, rfl, la, _, _, _, rfl, rfl, hL, rfl, _, rfl, la, _, _, _, rfl, rfl, hL, rfl, rfl, rfl, fun y dy hy hdy hne => ?_⟩
        have s0 : Same H (upd (upd H dy (.own y)) y (.ins A.Police dy [])) := Same.upd (Same.upd (Same.refl _) hdy) hy
        have nxy : x ≠ y := fun z => by obtain ⟨_, _, _, e, _⟩ := hcu; rw [z, hy] at e; cases e
        refine ⟨y, dy, x, l, cs, p, g, o, u, n, rfl, upd_same, hcu.same s0, hp, hpn, hn, hB, nxy, fun H' b => hk H' ((But.of s0).trans b), fun q z e0 q0 H' le ll kp _ _ _ _ _ PA => ⟨rfl, ?_⟩, fun z e1 H' b c => koun u (by rw [eo, z, e1]; rfl) H' ((But.of s0).trans b) c, ?_⟩
        · subst z; refine k (by rw [eo, e0]; rw [cnt_int q0]; rfl) H' _ (hR H' (fun b v nb e => kp b v (ne_of_none e hy) nb (s0 _ _ e)) PA.cu)
        · cases o with
          | none => trivial
          | some ab =>
            obtain ⟨a, b⟩ := ab
            subst eo
            exact fun H' d bt ct hd => ke H' d (hR H' ((But.of s0).trans bt) ct) hd
    · obtain ⟨rfl, x, c, lc, cs, p, g, q, h, r, cl, es, dx, le, ll, u, kv, m1, m2, rfl, PA, hp, hpn, hn, hes, hk1, hk2, eo⟩ := hC
      refine ⟨_, rfl, rfl, _, rfl, ifS (fun e => absurd e (by decide +kernel)) (fun _ => ?_)⟩
      refine ⟨_, rfl, rfl, _, rfl, ifS (fun e => absurd e (by decide +kernel)) (fun _ => ?_)⟩
      refine ⟨_, rfl, rfl, _, rfl, ifS (fun e => absurd e (by decide +kernel)) (fun _ => ?_)⟩
      refine ⟨_, rfl, rfl, _, rfl, ifS (fun e => absurd e (by decide +kernel)) (fun _ => ?_)⟩
      refine ⟨_, rfl, rfl, _, rfl, ifS (fun e => absurd e (by decide +kernel)) (fun _ => ?_)⟩
      refine ⟨_, rfl, rfl, _, rfl, ifS (fun e => absurd e (by decide +kernel)) (fun _ => ?_)⟩
      refine ⟨_, rfl, rfl, _, rfl, ifS (fun e => absurd e (by decide +kernel)) (fun _ => ?_)⟩
      refine ⟨_, rfl, la, _, _, _, rfl, rfl, hL, rfl, x, dx, _, rfl, PA.obj, pno _ _ _ _ _ _ _ (by decide +kernel) (by decide +kernel) (by decide +kernel) (by decide +kernel) (by decide +kernel) (by decide +kernel) (by decide +kernel), _, rfl, la, _, _, _, rfl, rfl, hL, rfl, _, rfl, la, _, _, _, rfl, rfl, hL, rfl, rfl, rfl, ?_⟩
      refine ⟨x, c, lc, cs, p, g, q, h, r, cl, es, dx, le, ll, u, kv, false, m1, m2, rfl, PA, hp, hpn, hn, hes, hk1, hk2, fun ui ki e1 e2 h1 h2 => ?_, fun e1 => ?_, fun e1 e2 => ?_⟩
      · exfalso
        subst e1 e2
        rcases eo with ⟨z, _⟩ | ⟨_, z, _⟩
        · rw [cnt_int h1] at z; cases z
        · rw [cnt_int h2] at z; cases z
      · rcases eo with ⟨_, z⟩ | ⟨z, _⟩
        · subst z; exact fun H' d s hd => ke H' d (hR H' s) hd
        · rw [e1] at z; cases z
      · rcases eo with ⟨z, _⟩ | ⟨_, _, z⟩
        · rw [e1] at z; cases z
        · subst z; exact fun H' d s hd => ke H' d (hR H' s) hd
end
end VK


namespace VK
open PySem PySem.Spec PyProof.Rows L2 VM
/-- what is told of it -/
def tolL : Out → List V
  | .fine => []
  | .recd i => [.str "record", .int i, .bl false]
  | .leng v => [.str "length", v, .bl false]
  | .coun v => [.str "count", v, .bl false]
  | .brk a b => [.str "good", .int a, .int b, .bl false]
def Tol (H : Hp) (v : V) (out : Out) : Prop := (out = .fine ∧ v = .non) ∨ (out ≠ .fine ∧ ∃ t, v = .ref t ∧ H t = some (.lst (tolL out)))
theorem refs2 {a b : Addr} {ws : List Value} (r : Vals [.ref a, .ref b] ws) : ws = [.ref a, .ref b] := by
  cases r with
  | cons r1 r => cases r with
    | cons r2 r => cases r; cases r1; cases r2; rfl
def sp_l_fault (K : PySem.W.Frag) (A : Ad) : Sp := fun vs H Q _ => ∃ (w : Str) (la : Addr) (xs : List V) (out : Out) (R : Hp → Prop), vs = [.str w, .ref la] ∧ SqL K H la xs ∧ Calls K A H w xs out R ∧ (∀ H1 H2, R H1 → Same H1 H2 → R H2) ∧
  ∀ H' v, R H' → Tol H' v out → Q v H'
def sp_l_due (_ : PySem.W.Frag) (_ : Ad) : Sp := fun vs H Q _ => ∃ (r : Option Nat) (pw cv : V) (w : Str) (o : Option (Int × Int)) (u : V) (b : Bool) (c : Bool), vs = [oV r, pw, cv, .str w] ∧
  (o = none ∧ pw = .non ∨ ∃ a b t, o = some (a, b) ∧ pw = .ref t ∧ H t = some (.tup [.int a, .int b])) ∧ (c = false ∧ cv = .non ∨ c = true ∧ ∃ t, cv = .ref t ∧ H t = some (.tup [u, .bl b])) ∧
  (c = true → w = "length" ∨ w = "count") ∧
  ∀ H' v, Same H H' → (∀ t, v = .ref t → H t = none) → Tol H' v (oR r (oB o (if c then (if b then .fine else if w = "length" then .leng u else .coun u) else .fine))) → Q v H'
section
variable {P : Program} {w : World} {K : PySem.W.Frag} {mg : Str → Option Value} {base : Heap} {A : Ad}
theorem ok_l_fault (T : Txt K mg A) : FnOk P w K mg base CX0 10 A.f_l_fault A.d_l_fault ["_law_word", "_law_some"] (sp_l_fault K A) := by
  have G_l_called := ok_l_called (P := P) (w := w) (base := base) T
  refine T.F_l_fault.ok sc_l_fault (fun vs H Q E h => ?_) (fun cdv A0 outer s H vs Q E hr h => ?_)
  · obtain ⟨wd, la, xs, out, R, rfl, hL, hC, hRs, k⟩ := h
    rfl
  · obtain ⟨wd, la, xs, out, R, rfl, hL, hC, hRs, k⟩ := h
    refine ⟨_, (pss_cons (ps_set (i := 2) sc_l_fault.nd rfl (by first | exact Or.inl rfl | exact Or.inr rfl) pe_non)
    (pss_cons (VTm.ps_try_asM rfl rfl sc_l_fault.nd takes0 (fun W pn xe tk _ => (pss_one (ps_expr (pe_callS G_l_called (hr.mono (by decide)) rfl T.m_l_called T.k_l_called T.b_l_called (fun σ => passAt tk σ) (pa_cons (pv 0) (pa_cons (pv 1) pa_nil)))))) (.cons (i := 3) rfl rfl ⟨rfl, by decide, .inl T.m_DueError⟩ (fun a oe cls d pn hz hf => (pss_cons (ps_set (i := 4) sc_l_fault.nd rfl (by first | exact Or.inl rfl | exact Or.inr rfl) (pe_or (pe_callB (r := VTm.rAskG K _ _ _) (VTm.call_askG hz hf) (by rfl) T.isinstance (by decide +kernel) (pa_cons (pv 3) (pa_cons (pe_tup (pa_cons (pe_glob (v := .ref A.InvalidCurve) rfl T.m_InvalidCurve rfl) (pa_cons (pe_glob (v := .ref A.InvalidTick) rfl T.m_InvalidTick rfl) pa_nil))) pa_nil))) (pe_one (pe_not (pe_callB (r := VTm.rAskG K _ _ _) (VTm.call_askG hz hf) (by rfl) T.isinstance (by decide +kernel) (pa_cons (pv 3) (pa_cons (pe_bltn (v := .ty "ValueError") (u := .type "ValueError") (by rfl) T.ValueError (by decide +kernel) (by exact rfl)) pa_nil)))))))
    (pss_one (ps_if (pt_val (pe_callB (r := VTm.rAskG K _ _ _) (VTm.call_askG hz hf) (by rfl) T.isinstance (by decide +kernel) (pa_cons (pv 3) (pa_cons (pe_glob (v := .ref A.InvalidRecord) rfl T.m_InvalidRecord rfl) pa_nil)))) (pss_one (ps_set (i := 2) sc_l_fault.nd rfl (by first | exact Or.inl rfl | exact Or.inr rfl) (pe_lst (pa_cons pe_str (pa_cons (VTm.pe_xfG hz hf (pv 3)) (pa_cons (pv 4) pa_nil)))))) (pss_one (ps_if (pt_val (pe_callB (r := VTm.rAskG K _ _ _) (VTm.call_askG hz hf) (by rfl) T.isinstance (by decide +kernel) (pa_cons (pv 3) (pa_cons (pe_glob (v := .ref A.InvalidLength) rfl T.m_InvalidLength rfl) pa_nil)))) (pss_one (ps_set (i := 2) sc_l_fault.nd rfl (by first | exact Or.inl rfl | exact Or.inr rfl) (pe_lst (pa_cons pe_str (pa_cons (VTm.pe_xfG hz hf (pv 3)) (pa_cons (pv 4) pa_nil)))))) (pss_one (ps_if (pt_val (pe_callB (r := VTm.rAskG K _ _ _) (VTm.call_askG hz hf) (by rfl) T.isinstance (by decide +kernel) (pa_cons (pv 3) (pa_cons (pe_glob (v := .ref A.InvalidCount) rfl T.m_InvalidCount rfl) pa_nil)))) (pss_one (ps_set (i := 2) sc_l_fault.nd rfl (by first | exact Or.inl rfl | exact Or.inr rfl) (pe_lst (pa_cons pe_str (pa_cons (VTm.pe_xfG hz hf (pv 3)) (pa_cons (pv 4) pa_nil)))))) (pss_one (ps_set (i := 2) sc_l_fault.nd rfl (by first | exact Or.inl rfl | exact Or.inr rfl) pe_str))))))))))
      (.cons (i := 3) rfl rfl ⟨rfl, by decide, .inl T.m_NotGood⟩ (fun a oe cls d pn hz hf => (pss_one (ps_set (i := 2) sc_l_fault.nd rfl (by first | exact Or.inl rfl | exact Or.inr rfl) (pe_lst (pa_cons pe_str (pa_cons (pe_xf T.xf_NotGood T.n_NotGood_first hz hf (pv 3)) (pa_cons (pe_xf T.xf_NotGood T.n_NotGood_second hz hf (pv 3)) (pa_cons (pe_or (pe_callB (r := VX.rAsk K _ _ _ _) (VX.call_ask T.as_NotGood hz hf) (by rfl) T.isinstance (by decide +kernel) (pa_cons (pv 3) (pa_cons (pe_glob (v := .ref A.TooSlow) rfl T.m_TooSlow rfl) pa_nil))) (pe_one (pe_not (pe_callB (r := VX.rAsk K _ _ _ _) (VX.call_ask T.as_NotGood hz hf) (by rfl) T.isinstance (by decide +kernel) (pa_cons (pv 3) (pa_cons (pe_bltn (v := .ty "RuntimeError") (u := .type "RuntimeError") (by rfl) T.RuntimeError (by decide +kernel) (by exact rfl)) pa_nil)))))) pa_nil))))))))
      .nil)))
    (pss_one (ps_ret (pv 2))))), ?_⟩
    refine ⟨_, rfl, _, rfl, wd, la, xs, out, R, rfl, hL, hC, fun e H' v hR => ?_, ?_⟩
    · exact ⟨_, rfl, k H' .non hR (.inl ⟨e, rfl⟩)⟩
    · cases out with
      | fine => trivial
      | recd i =>
        intro H' d hR hd
        refine ⟨true, T.ex_InvalidRecord_DueError, fun _ ea hea => ?_, fun z => nomatch z⟩
        refine ⟨_, rfl, (by show 2 ≤ sizeLine; decide), fun t2 ht2 => ?_⟩
        have hd2 : upd H' t2 (.tup [.ref A.InvalidCurve, .ref A.InvalidTick]) d = some (.xd [("position", V.int i)]) := by rw [upd_ne (ne_of_none hd ht2)]; exact hd
        have s2 : Same H' (upd H' t2 (.tup [.ref A.InvalidCurve, .ref A.InvalidTick])) := Same.upd (Same.refl _) ht2
        refine ⟨A.InvalidRecord, T.as_InvalidRecord, rfl, d, _, .ref t2, false, rfl, hd2, rfl, .inr ⟨t2, _, _, rfl, upd_same, fun ws r => refs2 r, T.kt_InvalidRecord_InvalidCurve_InvalidTick⟩, ?_⟩
        refine ⟨_, rfl, iteF ?_⟩
        refine ⟨_, rfl, A.InvalidRecord, T.as_InvalidRecord, rfl, d, _, .ty "ValueError", true, rfl, hd2, rfl, .inl ⟨.type "ValueError", fun u r => r, T.kt_InvalidRecord_ValueError⟩, ?_⟩
        refine ⟨_, rfl, ?_⟩
        refine ⟨_, rfl, A.InvalidRecord, T.as_InvalidRecord, rfl, d, _, .ref A.InvalidRecord, true, rfl, hd2, rfl, .inl ⟨.ref A.InvalidRecord, fun u r => r, T.kt_InvalidRecord_InvalidRecord⟩, ?_⟩
        refine ⟨_, rfl, iteT ?_⟩
        refine ⟨_, rfl, rfl, A.InvalidRecord, rfl, T.xf_InvalidRecord, T.n_InvalidRecord_position, d, _, _, rfl, hd2, rfl, _, rfl, (by show 3 ≤ sizeLine; decide), fun t ht => ?_⟩
        exact ⟨_, rfl, k _ _ (hRs _ _ hR (Same.upd s2 (s2.free ht))) (.inr ⟨(fun z => nomatch z), t, rfl, upd_same⟩)⟩
      | leng u =>
        intro H' d hR hd
        refine ⟨true, T.ex_InvalidLength_DueError, fun _ ea hea => ?_, fun z => nomatch z⟩
        refine ⟨_, rfl, (by show 2 ≤ sizeLine; decide), fun t2 ht2 => ?_⟩
        have hd2 : upd H' t2 (.tup [.ref A.InvalidCurve, .ref A.InvalidTick]) d = some (.xd [("value", u)]) := by rw [upd_ne (ne_of_none hd ht2)]; exact hd
        have s2 : Same H' (upd H' t2 (.tup [.ref A.InvalidCurve, .ref A.InvalidTick])) := Same.upd (Same.refl _) ht2
        refine ⟨A.InvalidLength, T.as_InvalidLength, rfl, d, _, .ref t2, false, rfl, hd2, rfl, .inr ⟨t2, _, _, rfl, upd_same, fun ws r => refs2 r, T.kt_InvalidLength_InvalidCurve_InvalidTick⟩, ?_⟩
        refine ⟨_, rfl, iteF ?_⟩
        refine ⟨_, rfl, A.InvalidLength, T.as_InvalidLength, rfl, d, _, .ty "ValueError", true, rfl, hd2, rfl, .inl ⟨.type "ValueError", fun u r => r, T.kt_InvalidLength_ValueError⟩, ?_⟩
        refine ⟨_, rfl, ?_⟩
        refine ⟨_, rfl, A.InvalidLength, T.as_InvalidLength, rfl, d, _, .ref A.InvalidRecord, false, rfl, hd2, rfl, .inl ⟨.ref A.InvalidRecord, fun u r => r, T.kt_InvalidLength_InvalidRecord⟩, ?_⟩
        refine ⟨_, rfl, iteF ?_⟩
        refine ⟨_, rfl, A.InvalidLength, T.as_InvalidLength, rfl, d, _, .ref A.InvalidLength, true, rfl, hd2, rfl, .inl ⟨.ref A.InvalidLength, fun u r => r, T.kt_InvalidLength_InvalidLength⟩, ?_⟩
        refine ⟨_, rfl, iteT ?_⟩
        refine ⟨_, rfl, rfl, A.InvalidLength, rfl, T.xf_InvalidLength, T.n_InvalidLength_value, d, _, _, rfl, hd2, rfl, _, rfl, (by show 3 ≤ sizeLine; decide), fun t ht => ?_⟩
        exact ⟨_, rfl, k _ _ (hRs _ _ hR (Same.upd s2 (s2.free ht))) (.inr ⟨(fun z => nomatch z), t, rfl, upd_same⟩)⟩
      | coun u =>
        intro H' d hR hd
        refine ⟨true, T.ex_InvalidCount_DueError, fun _ ea hea => ?_, fun z => nomatch z⟩
        refine ⟨_, rfl, (by show 2 ≤ sizeLine; decide), fun t2 ht2 => ?_⟩
        have hd2 : upd H' t2 (.tup [.ref A.InvalidCurve, .ref A.InvalidTick]) d = some (.xd [("value", u)]) := by rw [upd_ne (ne_of_none hd ht2)]; exact hd
        have s2 : Same H' (upd H' t2 (.tup [.ref A.InvalidCurve, .ref A.InvalidTick])) := Same.upd (Same.refl _) ht2
        refine ⟨A.InvalidCount, T.as_InvalidCount, rfl, d, _, .ref t2, false, rfl, hd2, rfl, .inr ⟨t2, _, _, rfl, upd_same, fun ws r => refs2 r, T.kt_InvalidCount_InvalidCurve_InvalidTick⟩, ?_⟩
        refine ⟨_, rfl, iteF ?_⟩
        refine ⟨_, rfl, A.InvalidCount, T.as_InvalidCount, rfl, d, _, .ty "ValueError", true, rfl, hd2, rfl, .inl ⟨.type "ValueError", fun u r => r, T.kt_InvalidCount_ValueError⟩, ?_⟩
        refine ⟨_, rfl, ?_⟩
        refine ⟨_, rfl, A.InvalidCount, T.as_InvalidCount, rfl, d, _, .ref A.InvalidRecord, false, rfl, hd2, rfl, .inl ⟨.ref A.InvalidRecord, fun u r => r, T.kt_InvalidCount_InvalidRecord⟩, ?_⟩
        refine ⟨_, rfl, iteF ?_⟩
        refine ⟨_, rfl, A.InvalidCount, T.as_InvalidCount, rfl, d, _, .ref A.InvalidLength, false, rfl, hd2, rfl, .inl ⟨.ref A.InvalidLength, fun u r => r, T.kt_InvalidCount_InvalidLength⟩, ?_⟩
        refine ⟨_, rfl, iteF ?_⟩
        refine ⟨_, rfl, A.InvalidCount, T.as_InvalidCount, rfl, d, _, .ref A.InvalidCount, true, rfl, hd2, rfl, .inl ⟨.ref A.InvalidCount, fun u r => r, T.kt_InvalidCount_InvalidCount⟩, ?_⟩
        refine ⟨_, rfl, iteT ?_⟩
        refine ⟨_, rfl, rfl, A.InvalidCount, rfl, T.xf_InvalidCount, T.n_InvalidCount_value, d, _, _, rfl, hd2, rfl, _, rfl, (by show 3 ≤ sizeLine; decide), fun t ht => ?_⟩
        exact ⟨_, rfl, k _ _ (hRs _ _ hR (Same.upd s2 (s2.free ht))) (.inr ⟨(fun z => nomatch z), t, rfl, upd_same⟩)⟩
      | brk a b =>
        intro H' d hR hd
        refine ⟨false, T.ex_NotGood_DueError, (fun z => nomatch z), fun _ => ⟨true, T.ex_NotGood, fun _ ea hea => ?_, fun z => nomatch z⟩⟩
        refine ⟨_, rfl, rfl, rfl, d, _, _, rfl, hd, rfl, _, rfl, rfl, rfl, d, _, _, rfl, hd, rfl, ?_⟩
        refine ⟨_, rfl, rfl, d, _, .ref A.TooSlow, false, rfl, hd, rfl, .inl ⟨.ref A.TooSlow, fun u r => r, T.kt_NotGood_TooSlow⟩, ?_⟩
        refine ⟨_, rfl, iteF ?_⟩
        refine ⟨_, rfl, rfl, d, _, .ty "RuntimeError", true, rfl, hd, rfl, .inl ⟨.type "RuntimeError", fun u r => r, T.kt_NotGood_RuntimeError⟩, ?_⟩
        refine ⟨_, rfl, ?_⟩
        exact ⟨(by show 4 ≤ sizeLine; decide), fun t ht => ⟨_, rfl, k _ _ (hRs _ _ hR (Same.upd (Same.refl _) ht)) (.inr ⟨(fun z => nomatch z), t, rfl, upd_same⟩)⟩⟩
theorem ok_l_due (T : Txt K mg A) : FnOk P w K mg base CX0 1 A.f_l_due A.d_l_due ["_law_record_at", "_law_pair", "_law_count_here", "_law_word"] (sp_l_due K A) := by
  refine T.F_l_due.ok sc_l_due (fun vs H Q E h => ?_) (fun cdv A0 outer s H vs Q E hr h => ?_)
  · obtain ⟨r, pw, cv, wd, o, u, b, c, rfl, hp, hc, hw, k⟩ := h
    rfl
  · obtain ⟨r, pw, cv, wd, o, u, b, c, rfl, hp, hc, hw, k⟩ := h
    refine ⟨_, (pss_cons (ps_if (pt_cmp (pc_notN (pv 0)) rfl) (pss_one (ps_ret (pe_lst (pa_cons pe_str (pa_cons (pv 0) (pa_cons pe_bl pa_nil)))))) pss_nil)
    (pss_cons (ps_if (pt_cmp (pc_notN (pv 1)) rfl) (pss_one (ps_ret (pe_lst (pa_cons pe_str (pa_cons (pe_ix (r := rIxT K) ix_tup (pv 1) pe_int (fun _ _ => rfl)) (pa_cons (pe_ix (r := rIxT K) ix_tup (pv 1) pe_int (fun _ _ => rfl)) (pa_cons pe_bl pa_nil))))))) pss_nil)
    (pss_cons (ps_if (PW.pt (pw_and (pt_cmp (pc_notN (pv 2)) rfl) (pw_and1 (pt_not (pt_val (pe_ix (r := rIxT K) ix_tup (pv 2) pe_int (fun _ _ => rfl))))))) (pss_one (ps_ret (pe_lst (pa_cons (pv 3) (pa_cons (pe_ix (r := rIxT K) ix_tup (pv 2) pe_int (fun _ _ => rfl)) (pa_cons pe_bl pa_nil)))))) pss_nil)
    (pss_one (ps_ret pe_non))))), ?_⟩
    cases r with
    | some i =>
      exact ⟨_, rfl, _, rfl, iteT ⟨_, rfl, (by show 3 ≤ sizeLine; decide), fun t ht => k _ _ (Same.upd (Same.refl _) ht) (fun t' e => by cases e; exact ht) (.inr ⟨(fun z => nomatch z), t, rfl, upd_same⟩)⟩⟩
    | none =>
      refine ⟨_, rfl, _, rfl, iteF ?_⟩
      rcases hp with ⟨rfl, rfl⟩ | ⟨a, b2, t2, rfl, rfl, ht2⟩
      · refine ⟨_, rfl, _, rfl, iteF ?_⟩
        rcases hc with ⟨rfl, rfl⟩ | ⟨rfl, t3, rfl, ht3⟩
        · exact ⟨_, rfl, _, rfl, iteF (k _ _ (Same.refl _) (fun t' e => nomatch e) (.inl ⟨rfl, rfl⟩))⟩
        · refine ⟨_, rfl, _, rfl, iteT ?_⟩
          refine ⟨_, rfl, t3, _, _, _, rfl, rfl, SqT.of ht3, rfl, ?_⟩
          cases b with
          | true => exact ⟨_, rfl, iteF (k _ _ (Same.refl _) (fun t' e => nomatch e) (.inl ⟨rfl, rfl⟩))⟩
          | false =>
            refine ⟨_, rfl, iteT ?_⟩
            refine ⟨_, rfl, _, rfl, t3, _, _, _, rfl, rfl, SqT.of ht3, rfl, (by show 3 ≤ sizeLine; decide), fun t ht => k _ _ (Same.upd (Same.refl _) ht) (fun t' e => by cases e; exact ht) (.inr ?_)⟩
            rcases hw rfl with rfl | rfl
            · refine ⟨(fun z => nomatch z), t, rfl, upd_same⟩
            · have e : ¬ (("count" : Str) = "length") := by decide +kernel
              have e2 : oR none (oB none (if true = true then (if false = true then Out.fine else if ("count" : Str) = "length" then Out.leng u else Out.coun u) else Out.fine)) = .coun u := by
                show (if ("count" : Str) = "length" then Out.leng u else Out.coun u) = _
                rw [if_neg e]
              rw [e2]
              exact ⟨(fun z => nomatch z), t, rfl, upd_same⟩
      · refine ⟨_, rfl, _, rfl, iteT ?_⟩
        exact ⟨_, rfl, t2, _, _, _, rfl, rfl, SqT.of ht2, rfl, _, rfl, t2, _, _, _, rfl, rfl, SqT.of ht2, rfl, (by show 4 ≤ sizeLine; decide), fun t ht => k _ _ (Same.upd (Same.refl _) ht) (fun t' e => by cases e; exact ht) (.inr ⟨(fun z => nomatch z), t, rfl, upd_same⟩)⟩
end
end VK


namespace VK
open PySem PySem.Spec PyProof.Rows L2 VM
theorem Ex.fresh {S : List Addr} {a : Addr} {H H' : Hp} (h : H a = none) (e : Ex (a :: S) H H') : Ex S H H' := fun b o n q => e b o (fun z => by
  rcases List.mem_cons.mp z with rfl | z
  · rw [h] at q; cases q
  · exact n z) q
theorem Lf.fresh {K : PySem.W.Frag} {H : Hp} {S : List Addr} {a : Addr} {B : Int} {k L : Nat} {v : V} {d : PyData} {n : String} (h : Lf K H S B k L v d n) (z : H a = none) : Lf K H (a :: S) B k L v d n :=
  ⟨fun G s => h.kd G (s.fresh z), fun G s => h.dm G (s.fresh z), h.sz, h.bd⟩
theorem RecS.fresh {K : PySem.W.Frag} {H : Hp} {S : List Addr} {a : Addr} {v : V} {o : Option Nat} {d : PyData} {n : String} (h : RecS K H S v o d n) (z : H a = none) : RecS K H (a :: S) v o d n :=
  ⟨fun G s => h.at_ G (s.fresh z), h.lf.fresh z, h.bd⟩
theorem RecS.sub {K : PySem.W.Frag} {H : Hp} {S S' : List Addr} {v : V} {o : Option Nat} {d : PyData} {n : String} (h : RecS K H S v o d n) (i : ∀ a ∈ S', a ∈ S) : RecS K H S' v o d n :=
  ⟨fun G s => h.at_ G (s.mono i), h.lf.sub i, h.bd⟩
/-- a row of the table of calls -/
def RowOk (K : PySem.W.Frag) (A : Ad) (S : List Addr) (x : Addr) (o : Option (Int × Int)) (H : Hp) (t : Addr) : Prop :=
  ∃ (w : Str) (la : Addr) (xs : List V) (dv : V) (out : Out) (dd : PyData), VR.Sz 3 7000 dd ∧ ∀ H', Ex S H H' → H' t = some (.tup [.str w, .ref la, dv]) ∧ SqL K H' la xs ∧ CallC K A H' x o w xs out ∧ Tol H' dv out ∧ ∀ v, Tol H' v out → VQ.Dm K H' v dd
theorem RowOk.ex {K : PySem.W.Frag} {A : Ad} {S : List Addr} {x : Addr} {o : Option (Int × Int)} {H H' : Hp} {t : Addr} (h : RowOk K A S x o H t) (e : Ex S H H') : RowOk K A S x o H' t := by
  obtain ⟨w, la, xs, dv, out, dd, sz, f⟩ := h
  exact ⟨w, la, xs, dv, out, dd, sz, fun G s => f G (e.trans s)⟩
theorem RowOk.fresh {K : PySem.W.Frag} {A : Ad} {S : List Addr} {a x : Addr} {o : Option (Int × Int)} {H : Hp} {t : Addr} (h : RowOk K A S x o H t) (z : H a = none) : RowOk K A (a :: S) x o H t := by
  obtain ⟨w, la, xs, dv, out, dd, sz, f⟩ := h
  exact ⟨w, la, xs, dv, out, dd, sz, fun G s => f G (s.fresh z)⟩
/-- what is told, as data -/
theorem tol_dm {K : PySem.W.Frag} {H : Hp} {S : List Addr} {out : Out} (hu : ∀ u, out = .leng u ∨ out = .coun u → ∃ d n, Lf K H S 0 1 200 u d n) (hb : ∀ a b, out = .brk a b → a.natAbs < 10 ^ 100 ∧ b.natAbs < 10 ^ 100) (hr : ∀ i, out = .recd i → i < 10 ^ 50) :
    ∃ dd, VR.Sz 3 7000 dd ∧ ∀ H', Ex S H H' → ∀ v, Tol H' v out → VQ.Dm K H' v dd := by
  have lst : ∀ (ds : List PyData), out ≠ .fine → ds.length ≤ 4 → (∀ d ∈ ds, VR.Sz 1 200 d) → (∀ H', Ex S H H' → VQ.DmAll K H' (tolL out) ds) → ∃ dd, VR.Sz 3 7000 dd ∧ ∀ H', Ex S H H' → ∀ v, Tol H' v out → VQ.Dm K H' v dd := by
    intro ds hne hl hz hd
    refine ⟨.list ds, (VR.Sz.list hz hl).mono (by omega) (by omega), fun H' e v h => ?_⟩
    rcases h with ⟨z, _⟩ | ⟨_, t, rfl, ht⟩
    · exact absurd z hne
    · exact .lst (SqL.of ht) (hd H' e)
  have zs : ∀ {x : Str}, (PyData.str x).shown.length ≤ 200 → VR.Sz 1 200 (.str x) := fun h => ⟨rfl, Nat.zero_le _, h⟩
  have zb : VR.Sz 1 200 (.bool false) := (VR.Sz.bool false).mono (by omega) (by omega)
  have zi : ∀ {i : Int}, i.natAbs < 10 ^ 100 → VR.Sz 1 200 (.int i) := fun h => (VR.Sz.int h).mono (by omega) (by omega)
  have m3 : ∀ {a b c : PyData}, VR.Sz 1 200 a → VR.Sz 1 200 b → VR.Sz 1 200 c → ∀ d ∈ [a, b, c], VR.Sz 1 200 d := fun h1 h2 h3 d hd => by
    simp only [List.mem_cons, List.not_mem_nil, or_false] at hd
    rcases hd with rfl | rfl | rfl <;> assumption
  cases out with
  | fine =>
    refine ⟨.none, VR.Sz.none.mono (by omega) (by omega), fun H' e v h => ?_⟩
    rcases h with ⟨_, rfl⟩ | ⟨z, _⟩
    · exact .flat .non
    · exact absurd rfl z
  | recd i =>
    exact lst [.str "record", .int i, .bool false] (fun z => nomatch z) (by show 3 ≤ 4; decide) (m3 (zs (by decide +kernel)) (zi (by
      have := hr i rfl
      rw [Int.natAbs_natCast]
      exact Nat.lt_of_lt_of_le this (by decide))) zb) fun H' e => .cons (.flat (.str _)) (.cons (.flat (.int _)) (.cons (.flat (.bl _)) .nil))
  | leng u =>
    obtain ⟨d, n, lf⟩ := hu u (.inl rfl)
    exact lst [.str "length", d, .bool false] (fun z => nomatch z) (by show 3 ≤ 4; decide) (m3 (zs (by decide +kernel)) lf.sz zb) fun H' e => .cons (.flat (.str _)) (.cons (lf.dm H' e) (.cons (.flat (.bl _)) .nil))
  | coun u =>
    obtain ⟨d, n, lf⟩ := hu u (.inr rfl)
    exact lst [.str "count", d, .bool false] (fun z => nomatch z) (by show 3 ≤ 4; decide) (m3 (zs (by decide +kernel)) lf.sz zb) fun H' e => .cons (.flat (.str _)) (.cons (lf.dm H' e) (.cons (.flat (.bl _)) .nil))
  | brk a b =>
    obtain ⟨ha, hb⟩ := hb a b rfl
    refine lst [.str "good", .int a, .int b, .bool false] (fun z => nomatch z) (by show 4 ≤ 4; decide) (fun d hd => ?_) fun H' e => .cons (.flat (.str _)) (.cons (.flat (.int _)) (.cons (.flat (.int _)) (.cons (.flat (.bl _)) .nil)))
    simp only [List.mem_cons, List.not_mem_nil, or_false] at hd
    rcases hd with rfl | rfl | rfl | rfl
    · exact zs (by decide +kernel)
    · exact zi ha
    · exact zi hb
    · exact zb
/-- what is due of a call -/
def dueO (w : Str) (r : Option Nat) (o : Option (Int × Int)) (c b : Bool) (u : V) : Out := oR r (oB o (if c then (if b then .fine else if w = "length" then .leng u else .coun u) else .fine))
theorem dueO_u {w : Str} {r : Option Nat} {o : Option (Int × Int)} {c b : Bool} {u z : V} (h : dueO w r o c b u = .leng z ∨ dueO w r o c b u = .coun z) : c = true ∧ z = u := by
  unfold dueO at h
  cases r with
  | some i => rcases h with h | h <;> cases h
  | none =>
    cases o with
    | some ab => obtain ⟨a, b⟩ := ab; rcases h with h | h <;> cases h
    | none =>
      cases c with
      | false => rcases h with h | h <;> cases h
      | true =>
        cases b with
        | true => rcases h with h | h <;> cases h
        | false =>
          refine ⟨rfl, ?_⟩
          have h : (if w = "length" then Out.leng u else Out.coun u) = .leng z ∨ (if w = "length" then Out.leng u else Out.coun u) = .coun z := h
          by_cases e : w = "length"
          · rw [if_pos e] at h; rcases h with h | h <;> cases h; rfl
          · rw [if_neg e] at h; rcases h with h | h <;> cases h; rfl
theorem dueO_b {w : Str} {r : Option Nat} {o : Option (Int × Int)} {c b : Bool} {u : V} {x y : Int} (h : dueO w r o c b u = .brk x y) : o = some (x, y) := by
  unfold dueO at h
  cases r with
  | some i => cases h
  | none =>
    cases o with
    | some ab => obtain ⟨a, b⟩ := ab; cases h; rfl
    | none =>
      exfalso
      cases c with
      | false => cases h
      | true =>
        cases b with
        | true => cases h
        | false =>
          have h : (if w = "length" then Out.leng u else Out.coun u) = .brk x y := h
          by_cases e : w = "length"
          · rw [if_pos e] at h; cases h
          · rw [if_neg e] at h; cases h
theorem dueO_r {w : Str} {r : Option Nat} {o : Option (Int × Int)} {c b : Bool} {u : V} {i : Nat} (h : dueO w r o c b u = .recd i) : r = some i := by
  unfold dueO at h
  cases r with
  | some i => cases h; rfl
  | none =>
    exfalso
    cases o with
    | some ab => obtain ⟨a, b⟩ := ab; cases h
    | none =>
      cases c with
      | false => cases h
      | true =>
        cases b with
        | true => cases h
        | false =>
          have h : (if w = "length" then Out.leng u else Out.coun u) = .recd i := h
          by_cases e : w = "length"
          · rw [if_pos e] at h; cases h
          · rw [if_neg e] at h; cases h
theorem due_lf {K : PySem.W.Frag} {H : Hp} {S : List Addr} {w : Str} {r : Option Nat} {o : Option (Int × Int)} {c b : Bool} {u : V} (hu : c = true → ∃ d n, Lf K H S 0 1 200 u d n) (hb : ∀ a b, o = some (a, b) → a.natAbs < 10 ^ 100 ∧ b.natAbs < 10 ^ 100) (hr : ∀ i, r = some i → i ≤ 10) :
    ∃ dd, VR.Sz 3 7000 dd ∧ ∀ H', Ex S H H' → ∀ v, Tol H' v (dueO w r o c b u) → VQ.Dm K H' v dd :=
  tol_dm (fun z h => by obtain ⟨h1, rfl⟩ := dueO_u h; exact hu h1) (fun a b h => hb a b (dueO_b h)) (fun i h => Nat.lt_of_le_of_lt (hr i (dueO_r h)) (by decide))
/-- a row, made -/
theorem row_ok {K : PySem.W.Frag} {A : Ad} {S : List Addr} {x la t : Addr} {o o' : Option (Int × Int)} {r : Option Nat} {c b : Bool} {u : V} {H H2 : Hp} {w w' : Str} {xs : List V} {dv : V} (hS : ∀ a ∈ S, H a ≠ none) (hla : H la = none) (s2 : Same (upd H la (.lst xs)) H2)
    (fr : ∀ a, dv = .ref a → upd H la (.lst xs) a = none) (tol : Tol H2 dv (dueO w r o' c b u)) (ht : H2 t = none) (call : ∀ H', Ex S H H' → CallC K A H' x o w' xs (dueO w r o' c b u))
    (hu : c = true → ∃ d n, Lf K H S 0 1 200 u d n) (hb : ∀ a b, o' = some (a, b) → a.natAbs < 10 ^ 100 ∧ b.natAbs < 10 ^ 100) (hr : ∀ i, r = some i → i ≤ 10) :
    RowOk K A S x o (upd H2 t (.tup [.str w', .ref la, dv])) t ∧ Same H (upd H2 t (.tup [.str w', .ref la, dv])) := by
  have s1 : Same H (upd H la (.lst xs)) := Same.upd (Same.refl _) hla
  have s3 : Same H2 (upd H2 t (.tup [.str w', .ref la, dv])) := Same.upd (Same.refl _) ht
  have s03 := (s1.trans s2).trans s3
  have nS : ∀ {b : Addr}, H b = none → b ∉ S := fun h m => hS _ m h
  obtain ⟨dd, sz, dm⟩ := due_lf (w := w) (b := b) hu hb hr
  refine ⟨⟨w', la, xs, dv, _, dd, sz, fun G e => ⟨e _ _ (nS (s1.free (s2.free ht))) upd_same, SqL.of (e _ _ (nS hla) (s3 _ _ (s2 _ _ upd_same))), call G ((Ex.same s03).trans e), ?_, fun v h => dm G ((Ex.same s03).trans e) v h⟩⟩, s03⟩
  rcases tol with z | ⟨z, a, rfl, ha⟩
  · exact .inl z
  · exact .inr ⟨z, a, rfl, e _ _ (nS (s1.free (fr a rfl))) (s3 _ _ ha)⟩
/-- the table so far -/
def Tb (K : PySem.W.Frag) (A : Ad) (S : List Addr) (x : Addr) (o : Option (Int × Int)) (rw : Addr) (H : Hp) (n : Nat) : Prop := ∃ ts : List Addr, H rw = some (.lst (ts.map V.ref)) ∧ ts.length = n ∧ ∀ t ∈ ts, RowOk K A S x o H t
def PairAt (H : Hp) (o : Option (Int × Int)) (pw : V) : Prop := o = none ∧ pw = .non ∨ ∃ a b t, o = some (a, b) ∧ pw = .ref t ∧ H t = some (.tup [.int a, .int b])
/-- all that was drawn -/
structure Bs (K : PySem.W.Frag) (A : Ad) (S : List Addr) (x l : Addr) (cs : List Int) (pp g : Int) (o : Option (Int × Int)) (v : V) (ro : Option Nat) (dr : PyData) (nr : String) (pw : V) (t3 t4 t5 : Addr) (u1 u2 u3 : V) (d1 d2 d3 : PyData) (n1 n2 n3 : String) (H : Hp) : Prop where
  hS : ∀ a ∈ S, H a ≠ none
  rc : RecS K H S v ro dr nr
  c1 : Lf K H S 0 1 200 u1 d1 n1
  c2 : Lf K H S 0 1 200 u2 d2 n2
  c3 : Lf K H S 0 1 200 u3 d3 n3
  pr : ∀ H', Ex S H H' → PairAt H' o pw
  q1 : ∀ H', Ex S H H' → H' t3 = some (.tup [u1, .bl (good false u1)])
  q2 : ∀ H', Ex S H H' → H' t4 = some (.tup [u2, .bl (good true u2)])
  q3 : ∀ H', Ex S H H' → H' t5 = some (.tup [u3, .bl (good false u3)])
theorem Bs.ex {K : PySem.W.Frag} {A : Ad} {S : List Addr} {x l : Addr} {cs : List Int} {pp g : Int} {o : Option (Int × Int)} {v : V} {ro : Option Nat} {dr : PyData} {nr : String} {pw : V} {t3 t4 t5 : Addr} {u1 u2 u3 : V} {d1 d2 d3 : PyData} {n1 n2 n3 : String} {H H' : Hp}
    (b : Bs K A S x l cs pp g o v ro dr nr pw t3 t4 t5 u1 u2 u3 d1 d2 d3 n1 n2 n3 H) (e : Ex S H H') (hS : ∀ a ∈ S, H' a ≠ none) : Bs K A S x l cs pp g o v ro dr nr pw t3 t4 t5 u1 u2 u3 d1 d2 d3 n1 n2 n3 H' :=
  ⟨hS, b.rc.ex e, b.c1.ex e, b.c2.ex e, b.c3.ex e, fun G s => b.pr G (e.trans s), fun G s => b.q1 G (e.trans s), fun G s => b.q2 G (e.trans s), fun G s => b.q3 G (e.trans s)⟩
theorem Bs.fresh {K : PySem.W.Frag} {A : Ad} {S : List Addr} {rw x l : Addr} {cs : List Int} {pp g : Int} {o : Option (Int × Int)} {v : V} {ro : Option Nat} {dr : PyData} {nr : String} {pw : V} {t3 t4 t5 : Addr} {u1 u2 u3 : V} {d1 d2 d3 : PyData} {n1 n2 n3 : String} {H H' : Hp}
    (b : Bs K A S x l cs pp g o v ro dr nr pw t3 t4 t5 u1 u2 u3 d1 d2 d3 n1 n2 n3 H) (z : H rw = none) (e : Ex (rw :: S) H H') (hS : ∀ a ∈ rw :: S, H' a ≠ none) : Bs K A (rw :: S) x l cs pp g o v ro dr nr pw t3 t4 t5 u1 u2 u3 d1 d2 d3 n1 n2 n3 H' :=
  ⟨hS, (b.rc.fresh z).ex e, (b.c1.fresh z).ex e, (b.c2.fresh z).ex e, (b.c3.fresh z).ex e, fun G s => b.pr G ((e.trans s).fresh z), fun G s => b.q1 G ((e.trans s).fresh z), fun G s => b.q2 G ((e.trans s).fresh z), fun G s => b.q3 G ((e.trans s).fresh z)⟩
/-- the table, one row longer -/
theorem Tb.push {K : PySem.W.Frag} {A : Ad} {S : List Addr} {x rw t : Addr} {o : Option (Int × Int)} {H H3 : Hp} {ts : List Addr} (hr : rw ∈ S) (hts : ∀ t ∈ ts, RowOk K A S x o H t) (s : Same H H3) (rk : RowOk K A S x o H3 t) :
    Tb K A S x o rw (upd H3 rw (.lst (ts.map V.ref ++ [.ref t]))) (ts.length + 1) := by
  have e : Ex S H3 (upd H3 rw (.lst (ts.map V.ref ++ [.ref t]))) := Ex.put hr
  refine ⟨ts ++ [t], by rw [upd_same, List.map_append]; rfl, by rw [List.length_append]; rfl, fun a ha => ?_⟩
  rcases List.mem_append.mp ha with ha | ha
  · exact ((hts a ha).ex (Ex.same s)).ex e
  · rw [List.mem_singleton] at ha; subst ha; exact rk.ex e
theorem CuL.ext {A : Ad} {H H' : Hp} {r x l : Addr} {cs : List Int} {p g : Int} {o : Option (Int × Int)} (h : CuL A H x l cs p g o) (hr : Rng H r) (n : l ≠ r) (e : Ext r H H') : CuL A H' x l cs p g o := by
  obtain ⟨dx, w, b, h1, h2, h3⟩ := h
  obtain ⟨y, z, hr, _⟩ := hr
  refine ⟨dx, w, b, e.keep _ _ (fun q => by rw [q, hr] at h1; cases h1) h1, e.keep _ _ n h2, fun q => ?_⟩
  have v := h3 q
  cases o with
  | none => exact v
  | some ab =>
    obtain ⟨a, b⟩ := ab
    obtain ⟨t, e1, ht⟩ := v
    exact ⟨t, e1, e.keep _ _ (fun q => by rw [q, hr] at ht; cases ht) ht⟩
theorem But.ex {x : Addr} {S : List Addr} {H H' : Hp} (b : But x H H') (h : x ∈ S) : Ex S H H' := fun c o n e => b c o (fun z => n (z ▸ h)) e
def sp_l_calls_right (_ : PySem.W.Frag) (_ : Ad) : Sp := fun vs H Q _ => ∃ (p : Addr), vs = [.ref p] ∧ Rng H p ∧ ∀ H', Ext p H H' → Q (.bl true) H'
section
variable {P : Program} {w : World} {K : PySem.W.Frag} {mg : Str → Option Value} {base : Heap} {A : Ad}
theorem ok_l_calls_right (T : Txt K mg A) : VG.FnG P w K mg base CX0 11 A.f_l_calls_right A.d_l_calls_right ["_law_rng_here"] (sp_l_calls_right K A) := by
  have G_l_count := ok_l_count (P := P) (w := w) (base := base) T
  have G_l_curve := ok_l_curve (P := P) (w := w) (base := base) T
  have G_l_due := ok_l_due (P := P) (w := w) (base := base) T
  have G_l_fault := ok_l_fault (P := P) (w := w) (base := base) T
  have G_l_record := ok_l_record (P := P) (w := w) (base := base) T
  refine VG.okG0 T.F_l_calls_right sc_l_calls_right (fun vs H Q E h => ?_) (fun cdv A0 outer s H vs Q E hA hr h => ?_)
  · obtain ⟨p, rfl, hR, k⟩ := h
    rfl
  · obtain ⟨p, rfl, hR, k⟩ := h
    refine ⟨_, (pss_cons (ps_asg (pe_call G_l_record (hr.mono (by decide)) rfl T.m_l_record T.k_l_record T.b_l_record .nil pass0 (pa_cons (pv 0) pa_nil)) (pg_tup rfl (pgs_cons (pg_name (i := 1) sc_l_calls_right.nd rfl (by first | exact Or.inl rfl | exact Or.inr rfl)) (pgs_cons (pg_name (i := 2) sc_l_calls_right.nd rfl (by first | exact Or.inl rfl | exact Or.inr rfl)) pgs_nil))))
    (pss_cons (ps_asg (pe_call G_l_curve (hr.mono (by decide)) rfl T.m_l_curve T.k_l_curve T.b_l_curve .nil pass0 (pa_cons (pv 0) pa_nil)) (pg_tup rfl (pgs_cons (pg_name (i := 3) sc_l_calls_right.nd rfl (by first | exact Or.inl rfl | exact Or.inr rfl)) (pgs_cons (pg_name (i := 4) sc_l_calls_right.nd rfl (by first | exact Or.inl rfl | exact Or.inr rfl)) pgs_nil))))
    (pss_cons (ps_par3 (i := 5) (j := 6) (l := 7) (by rfl) sc_l_calls_right.nd rfl rfl rfl (by decide) (by decide) (by decide) rfl rfl rfl (pa_cons (pe_call G_l_count (hr.mono (by decide)) rfl T.m_l_count T.k_l_count T.b_l_count .nil pass0 (pa_cons (pv 0) (pa_cons pe_non pa_nil))) (pa_cons (pe_call G_l_count (hr.mono (by decide)) rfl T.m_l_count T.k_l_count T.b_l_count .nil pass0 (pa_cons (pv 0) (pa_cons pe_int pa_nil))) (pa_cons (pe_call G_l_count (hr.mono (by decide)) rfl T.m_l_count T.k_l_count T.b_l_count .nil pass0 (pa_cons (pv 0) (pa_cons pe_non pa_nil))) pa_nil))) (by rfl))
    (pss_cons (ps_set (i := 8) sc_l_calls_right.nd rfl (by first | exact Or.inl rfl | exact Or.inr rfl) (pe_callB (r := VQ.rReprM K) (VQ.call_reprM hA hr.units) (by rfl) T.repr (by decide +kernel) (pa_cons (pv 1) pa_nil)))
    (pss_cons (ps_set (i := 9) sc_l_calls_right.nd rfl (by first | exact Or.inl rfl | exact Or.inr rfl) (pe_lst (pa_cons (pe_tup (pa_cons pe_str (pa_cons (pe_lst (pa_cons (pv 1) (pa_cons (pe_ix (r := rIxT K) ix_tup (pv 5) pe_int (fun _ _ => rfl)) pa_nil))) (pa_cons (pe_call G_l_due (hr.mono (by decide)) rfl T.m_l_due T.k_l_due T.b_l_due .nil pass0 (pa_cons (pv 2) (pa_cons pe_non (pa_cons (pv 5) (pa_cons pe_str pa_nil))))) pa_nil)))) pa_nil)))
    (pss_cons (ps_expr (pe_bm PySem.F.plainAttrs_list PySem.F.slot_list_append PySem.F.type_list_append mt_append (pv 9) (pa_cons (pe_tup (pa_cons pe_str (pa_cons (pe_lst (pa_cons (pv 1) (pa_cons (pv 3) pa_nil))) (pa_cons (pe_call G_l_due (hr.mono (by decide)) rfl T.m_l_due T.k_l_due T.b_l_due .nil pass0 (pa_cons (pv 2) (pa_cons pe_non (pa_cons pe_non (pa_cons pe_str pa_nil))))) pa_nil)))) pa_nil)))
    (pss_cons (ps_expr (pe_bm PySem.F.plainAttrs_list PySem.F.slot_list_append PySem.F.type_list_append mt_append (pv 9) (pa_cons (pe_tup (pa_cons pe_str (pa_cons (pe_lst (pa_cons (pv 1) (pa_cons (pv 3) pa_nil))) (pa_cons (pe_call G_l_due (hr.mono (by decide)) rfl T.m_l_due T.k_l_due T.b_l_due .nil pass0 (pa_cons (pv 2) (pa_cons pe_non (pa_cons pe_non (pa_cons pe_str pa_nil))))) pa_nil)))) pa_nil)))
    (pss_cons (ps_expr (pe_bm PySem.F.plainAttrs_list PySem.F.slot_list_append PySem.F.type_list_append mt_append (pv 9) (pa_cons (pe_tup (pa_cons pe_str (pa_cons (pe_lst (pa_cons (pv 1) pa_nil)) (pa_cons (pe_call G_l_due (hr.mono (by decide)) rfl T.m_l_due T.k_l_due T.b_l_due .nil pass0 (pa_cons (pv 2) (pa_cons pe_non (pa_cons pe_non (pa_cons pe_str pa_nil))))) pa_nil)))) pa_nil)))
    (pss_cons (ps_expr (pe_bm PySem.F.plainAttrs_list PySem.F.slot_list_append PySem.F.type_list_append mt_append (pv 9) (pa_cons (pe_tup (pa_cons pe_str (pa_cons (pe_lst (pa_cons (pv 3) (pa_cons (pe_ix (r := rIxT K) ix_tup (pv 6) pe_int (fun _ _ => rfl)) pa_nil))) (pa_cons (pe_call G_l_due (hr.mono (by decide)) rfl T.m_l_due T.k_l_due T.b_l_due .nil pass0 (pa_cons pe_non (pa_cons (pv 4) (pa_cons (pv 6) (pa_cons pe_str pa_nil))))) pa_nil)))) pa_nil)))
    (pss_cons (ps_expr (pe_bm PySem.F.plainAttrs_list PySem.F.slot_list_append PySem.F.type_list_append mt_append (pv 9) (pa_cons (pe_tup (pa_cons pe_str (pa_cons (pe_lst (pa_cons (pv 1) (pa_cons (pv 3) pa_nil))) (pa_cons (pe_call G_l_due (hr.mono (by decide)) rfl T.m_l_due T.k_l_due T.b_l_due .nil pass0 (pa_cons (pv 2) (pa_cons (pv 4) (pa_cons pe_non (pa_cons pe_str pa_nil))))) pa_nil)))) pa_nil)))
    (pss_cons (ps_expr (pe_bm PySem.F.plainAttrs_list PySem.F.slot_list_append PySem.F.type_list_append mt_append (pv 9) (pa_cons (pe_tup (pa_cons pe_str (pa_cons (pe_lst (pa_cons (pv 3) (pa_cons (pe_ix (r := rIxT K) ix_tup (pv 7) pe_int (fun _ _ => rfl)) pa_nil))) (pa_cons (pe_call G_l_due (hr.mono (by decide)) rfl T.m_l_due T.k_l_due T.b_l_due .nil pass0 (pa_cons pe_non (pa_cons (pv 4) (pa_cons (pv 7) (pa_cons pe_str pa_nil))))) pa_nil)))) pa_nil)))
    (pss_cons (ps_for PassesOwn.never rfl (pi_list (pv 9)) (pg_tup rfl (pgs_cons (pg_name (i := 10) sc_l_calls_right.nd rfl (by first | exact Or.inl rfl | exact Or.inr rfl)) (pgs_cons (pg_name (i := 11) sc_l_calls_right.nd rfl (by first | exact Or.inl rfl | exact Or.inr rfl)) (pgs_cons (pg_name (i := 12) sc_l_calls_right.nd rfl (by first | exact Or.inl rfl | exact Or.inr rfl)) pgs_nil))))
      (pss_one (ps_if (pt_cmpR op_ne (pe_callB (r := VQ.rReprM K) (VQ.call_reprM hA hr.units) (by rfl) T.repr (by decide +kernel) (pa_cons (pe_call G_l_fault (hr.mono (by decide)) rfl T.m_l_fault T.k_l_fault T.b_l_fault .nil pass0 (pa_cons (pv 10) (pa_cons (pv 11) pa_nil))) pa_nil)) (pe_callB (r := VQ.rReprM K) (VQ.call_reprM hA hr.units) (by rfl) T.repr (by decide +kernel) (pa_cons (pv 12) pa_nil)) (nomark _)) (pss_one (ps_ret pe_bl)) pss_nil)))
    (pss_one (ps_ret (pe_cmpR op_eq (pe_callB (r := VQ.rReprM K) (VQ.call_reprM hA hr.units) (by rfl) T.repr (by decide +kernel) (pa_cons (pv 1) pa_nil)) (pv 8) (nomark _)))))))))))))))), ?_⟩
    refine ⟨_, rfl, p, rfl, hR, fun H1 t1 v ro dr nr e1 f1 ht1 hrec => ?_⟩
    refine ⟨t1, _, rfl, SqT.of ht1, rfl, _, _, rfl, _, _, rfl, rfl, ?_⟩
    refine ⟨_, rfl, p, rfl, e1.rng, fun H2 t2 x l cs pp g o pw e2 f2 ht2 hx0 hl0 hcu hpp hppn hcn hB hpw => ?_⟩
    refine ⟨t2, _, rfl, SqT.of ht2, rfl, _, _, rfl, _, _, rfl, rfl, ?_⟩
    have hS2 : ∀ a ∈ [x, p], H2 a ≠ none := fun a ha => by
      simp only [List.mem_cons, List.not_mem_nil, or_false] at ha
      rcases ha with rfl | rfl
      · obtain ⟨_, _, _, z, _⟩ := hcu; rw [z]; simp
      · obtain ⟨_, _, z, _⟩ := e2.rng; rw [z]; simp
    have nxp : x ≠ p := e1.rng.ne hx0
    have nlp : l ≠ p := e1.rng.ne hl0
    refine ⟨_, rfl, p, [x, p], false, rfl, e2.rng, hS2, by simp, fun H3 t3 u1 d1 n1 e3 f3 ht3 lf1 => ?_⟩
    have hS3 : ∀ a ∈ [x, p], H3 a ≠ none := fun a ha z => hS2 a ha (e3.free z)
    refine ⟨_, rfl, p, [x, p], true, rfl, e3.rng, hS3, by simp, fun H4 t4 u2 d2 n2 e4 f4 ht4 lf2 => ?_⟩
    have hS4 : ∀ a ∈ [x, p], H4 a ≠ none := fun a ha z => hS3 a ha (e4.free z)
    refine ⟨_, rfl, p, [x, p], false, rfl, e4.rng, hS4, by simp, fun H5 t5 u3 d3 n3 e5 f5 ht5 lf3 => ⟨_, _, _, rfl, ?_⟩⟩
    have e35 := e4.trans e5
    have e25 := e3.trans e35
    have e15 := e2.trans e25
    have e05 := e1.trans e15
    have hpS : p ∈ [x, p] := by simp
    have sub1 : ∀ a ∈ [x], a ∈ [x, p] := by simp
    have hx5 : H5 x ≠ none := fun z => hS2 x (by simp) (e25.free z)
    have cu5 : CuL A H5 x l cs pp g o := hcu.ext e2.rng nlp e25
    have ntx : ∀ {t : Addr} {G : Hp}, G t = none → G x ≠ none → t ∉ [x] := fun h1 h2 z => by
      rw [List.mem_singleton] at z; rw [z] at h1; exact h2 h1
    have hx2 : H2 x ≠ none := hS2 x (by simp)
    have hx3 : H3 x ≠ none := hS3 x (by simp)
    have hx4 : H4 x ≠ none := hS4 x (by simp)
    have b5 : Bs K A [x] x l cs pp g o v ro dr nr pw t3 t4 t5 u1 u2 u3 d1 d2 d3 n1 n2 n3 H5 := by
      refine ⟨fun a ha => by rw [List.mem_singleton] at ha; subst ha; exact hx5, ((hrec.fresh hx0).ex (Ex.ext e15 hpS)).sub sub1, (lf1.ex (Ex.ext e35 hpS)).sub sub1, (lf2.ex (Ex.ext e5 hpS)).sub sub1, lf3.sub sub1, fun G s => ?_,
        fun G s => s _ _ (ntx f3 hx2) (e35.keep _ _ (e2.rng.ne f3) ht3), fun G s => s _ _ (ntx f4 hx3) (e5.keep _ _ (e3.rng.ne f4) ht4), fun G s => s _ _ (ntx f5 hx4) ht5⟩
      rcases hpw with z | ⟨rfl, tp, rfl, h1, h2⟩
      · exact .inl z
      · refine .inr ⟨1, 2, tp, rfl, rfl, s _ _ (fun z => ?_) (e25.keep _ _ (e1.rng.ne h1) h2)⟩
        rw [List.mem_singleton] at z
        rw [z, hx0] at h1 <;> first | exact hx2 (by rw [← z]; exact absurd h2 (by obtain ⟨_, _, _, y, _⟩ := hcu; rw [z, y]; simp)) | (obtain ⟨_, _, _, y, _⟩ := hcu; rw [z, y] at h2; cases h2)
    have ho : ∀ a b, o = some (a, b) → a.natAbs < 10 ^ 100 ∧ b.natAbs < 10 ^ 100 := fun a b z => by
      rcases hpw with ⟨h, _⟩ | ⟨h, _⟩
      · rw [h] at z; cases z
      · rw [h] at z; cases z; exact ⟨by decide, by decide⟩
    have hno : ∀ a b : Int, (none : Option (Int × Int)) = some (a, b) → a.natAbs < 10 ^ 100 ∧ b.natAbs < 10 ^ 100 := fun a b z => nomatch z
    have hnr : ∀ i, (none : Option Nat) = some i → i ≤ 10 := fun i z => nomatch z
    obtain ⟨z1, z2, z3⟩ : dr.showable = true ∧ dr.depth ≤ 60 ∧ dr.shown.length ≤ sizeLine := ⟨b5.rc.lf.sz.sh, Nat.le_trans b5.rc.lf.sz.dp (by decide), Nat.le_trans b5.rc.lf.sz.ln (by rw [sizeLine_eq]; decide)⟩
    refine ⟨_, rfl, v, dr, rfl, b5.rc.lf.dm _ .refl, z1, z2, z3, ?_⟩
    refine ⟨_, rfl, _, rfl, t3, _, _, _, rfl, rfl, SqT.of (b5.q1 _ .refl), rfl, (by show 2 ≤ sizeLine; decide), fun la hla => ?_⟩
    have g5 : upd H5 la (.lst [v, u1]) t3 = some (.tup [u1, .bl (good false u1)]) := b5.q1 _ (Ex.same (Same.upd (Same.refl _) hla))
    refine ⟨_, rfl, _, rfl, ro, .non, .ref t3, "length", none, u1, good false u1, true, rfl, .inl ⟨rfl, rfl⟩, .inr ⟨rfl, t3, rfl, g5⟩, (fun _ => .inl rfl), fun G dv s2 fr tol => ⟨(by show 3 ≤ sizeLine; decide), fun t ht => ⟨(by show 1 ≤ sizeLine; decide), fun rw hrw => ?_⟩⟩⟩
    have dl : dueO "length" ro none true (good false u1) u1 = oR ro (if cnt u1 then .fine else .leng u1) := by
      unfold dueO good
      rw [if_pos rfl]
      rfl
    obtain ⟨rk, s3⟩ := row_ok (K := K) (A := A) (x := x) (o := o) (w' := "most_in") b5.hS hla s2 fr tol ht (fun H' e => .inl ⟨rfl, v, ro, u1, n1, rfl, b5.rc.at_ H' e, (b5.c1.ex e).kds, dl⟩) (fun _ => ⟨_, _, b5.c1⟩) hno b5.rc.bd
    have rw5 : H5 rw = none := s3.free hrw
    have hrS : rw ∈ [rw, x] := by simp
    have stage : ∀ G', Ex [rw] H5 G' → G' rw ≠ none → Bs K A [rw, x] x l cs pp g o v ro dr nr pw t3 t4 t5 u1 u2 u3 d1 d2 d3 n1 n2 n3 G' := fun G' e n => by
      refine b5.fresh rw5 (e.mono (by simp)) (fun a ha => ?_)
      simp only [List.mem_cons, List.not_mem_nil, or_false] at ha
      rcases ha with rfl | rfl
      · exact n
      · intro z
        cases y : H5 a with
        | none => exact hx5 y
        | some o' => rw [(e.fresh rw5) _ _ (by simp) y] at z; cases z
    have tb1 : Tb K A [rw, x] x o rw (upd (upd G t (.tup [.str "most_in", .ref la, dv])) rw (.lst [.ref t])) 1 := by
      refine ⟨[t], upd_same, rfl, fun a ha => ?_⟩
      rw [List.mem_singleton] at ha
      subst ha
      exact (rk.fresh hrw).ex (Ex.put hrS)
    have x1 : Ex [rw] H5 (upd (upd G t (.tup [.str "most_in", .ref la, dv])) rw (.lst [.ref t])) := (Ex.same s3).trans (Ex.put (by simp))
    have r1 : upd (upd G t (.tup [.str "most_in", .ref la, dv])) rw (.lst [.ref t]) rw ≠ none := by rw [upd_same]; simp
    generalize upd (upd G t (.tup [.str "most_in", .ref la, dv])) rw (.lst [.ref t]) = H5a at *
    clear rk s3 tol fr s2 ht hla hrw g5
    have nlc : ¬ (("count" : Str) = "length") := by decide +kernel
    have dg : ∀ u, dueO "count" none o true (good true u) u = oB o (if cntTo 400 u then .fine else .coun u) := fun u => by
      unfold dueO good
      rw [if_neg nlc]
      rfl
    have dp : ∀ u, dueO "count" none o true (good false u) u = oB o (if cnt u then .fine else .coun u) := fun u => by
      unfold dueO good
      rw [if_neg nlc]
      rfl
    -- keeps
    have b1 := stage H5a x1 r1
    obtain ⟨ts1, p1, l1, o1⟩ := tb1
    refine ⟨_, rfl, .inl ⟨rfl, _, SqL.of p1⟩, _, rfl, _, rfl, (by show 2 ≤ sizeLine; decide), fun la hla => ?_⟩
    refine ⟨_, rfl, ro, .non, .non, "", none, .non, false, false, rfl, .inl ⟨rfl, rfl⟩, .inl ⟨rfl, rfl⟩, (fun z => nomatch z), fun G dv s2 fr tol => ⟨(by show 3 ≤ sizeLine; decide), fun t ht => ?_⟩⟩
    obtain ⟨rk, s3⟩ := row_ok (K := K) (A := A) (x := x) (o := o) (w' := "keeps") b1.hS hla s2 fr tol ht (fun H' e => .inr (.inl ⟨rfl, v, ro, rfl, b1.rc.at_ H' e, rfl⟩)) (fun z => nomatch z) hno b5.rc.bd
    refine ⟨rw, _, _, rfl, rfl, s3 _ _ p1, small (by rw [List.length_map]; omega), ?_⟩
    have tb2 := Tb.push hrS o1 s3 rk
    rw [l1] at tb2
    have x2 : Ex [rw] H5 (upd (upd G t (.tup [.str "keeps", .ref la, dv])) rw (.lst (ts1.map V.ref ++ [.ref t]))) := x1.trans ((Ex.same s3).trans (Ex.put (by simp)))
    have r2 : upd (upd G t (.tup [.str "keeps", .ref la, dv])) rw (.lst (ts1.map V.ref ++ [.ref t])) rw ≠ none := by rw [upd_same]; simp
    generalize upd (upd G t (.tup [.str "keeps", .ref la, dv])) rw (.lst (ts1.map V.ref ++ [.ref t])) = H6 at *
    clear rk s3 tol fr s2 ht hla p1 o1
    -- breach
    have b2 := stage H6 x2 r2
    obtain ⟨ts2, p2, l2, o2⟩ := tb2
    refine ⟨_, rfl, .inl ⟨rfl, _, SqL.of p2⟩, _, rfl, _, rfl, (by show 2 ≤ sizeLine; decide), fun la hla => ?_⟩
    refine ⟨_, rfl, ro, .non, .non, "", none, .non, false, false, rfl, .inl ⟨rfl, rfl⟩, .inl ⟨rfl, rfl⟩, (fun z => nomatch z), fun G dv s2 fr tol => ⟨(by show 3 ≤ sizeLine; decide), fun t ht => ?_⟩⟩
    obtain ⟨rk, s3⟩ := row_ok (K := K) (A := A) (x := x) (o := o) (w' := "breach") b2.hS hla s2 fr tol ht (fun H' e => .inr (.inr (.inl ⟨rfl, v, ro, rfl, b2.rc.at_ H' e, rfl⟩))) (fun z => nomatch z) hno b5.rc.bd
    refine ⟨rw, _, _, rfl, rfl, s3 _ _ p2, small (by rw [List.length_map]; omega), ?_⟩
    have tb3 := Tb.push hrS o2 s3 rk
    rw [l2] at tb3
    have x3 : Ex [rw] H5 (upd (upd G t (.tup [.str "breach", .ref la, dv])) rw (.lst (ts2.map V.ref ++ [.ref t]))) := x2.trans ((Ex.same s3).trans (Ex.put (by simp)))
    have r3 : upd (upd G t (.tup [.str "breach", .ref la, dv])) rw (.lst (ts2.map V.ref ++ [.ref t])) rw ≠ none := by rw [upd_same]; simp
    generalize upd (upd G t (.tup [.str "breach", .ref la, dv])) rw (.lst (ts2.map V.ref ++ [.ref t])) = H7 at *
    clear rk s3 tol fr s2 ht hla p2 o2
    -- tightest
    have b3 := stage H7 x3 r3
    obtain ⟨ts3, p3, l3, o3⟩ := tb3
    refine ⟨_, rfl, .inl ⟨rfl, _, SqL.of p3⟩, _, rfl, (by show 1 ≤ sizeLine; decide), fun la hla => ?_⟩
    refine ⟨_, rfl, ro, .non, .non, "", none, .non, false, false, rfl, .inl ⟨rfl, rfl⟩, .inl ⟨rfl, rfl⟩, (fun z => nomatch z), fun G dv s2 fr tol => ⟨(by show 3 ≤ sizeLine; decide), fun t ht => ?_⟩⟩
    obtain ⟨rk, s3⟩ := row_ok (K := K) (A := A) (x := x) (o := o) (w' := "tightest") b3.hS hla s2 fr tol ht (fun H' e => .inr (.inr (.inr (.inl ⟨rfl, v, ro, rfl, b3.rc.at_ H' e, rfl⟩)))) (fun z => nomatch z) hno b5.rc.bd
    refine ⟨rw, _, _, rfl, rfl, s3 _ _ p3, small (by rw [List.length_map]; omega), ?_⟩
    have tb4 := Tb.push hrS o3 s3 rk
    rw [l3] at tb4
    have x4 : Ex [rw] H5 (upd (upd G t (.tup [.str "tightest", .ref la, dv])) rw (.lst (ts3.map V.ref ++ [.ref t]))) := x3.trans ((Ex.same s3).trans (Ex.put (by simp)))
    have r4 : upd (upd G t (.tup [.str "tightest", .ref la, dv])) rw (.lst (ts3.map V.ref ++ [.ref t])) rw ≠ none := by rw [upd_same]; simp
    generalize upd (upd G t (.tup [.str "tightest", .ref la, dv])) rw (.lst (ts3.map V.ref ++ [.ref t])) = H8 at *
    clear rk s3 tol fr s2 ht hla p3 o3
    -- greedy
    have b4 := stage H8 x4 r4
    obtain ⟨ts4, p4, l4, o4⟩ := tb4
    refine ⟨_, rfl, .inl ⟨rfl, _, SqL.of p4⟩, _, rfl, _, rfl, t4, _, _, _, rfl, rfl, SqT.of (b4.q2 _ .refl), rfl, (by show 2 ≤ sizeLine; decide), fun la hla => ?_⟩
    have g4 := b4.q2 _ (Ex.same (Same.upd (o := .lst [.ref x, u2]) (Same.refl _) hla))
    have gp4 := b4.pr _ (Ex.same (Same.upd (o := .lst [.ref x, u2]) (Same.refl _) hla))
    refine ⟨_, rfl, _, rfl, none, pw, .ref t4, "count", o, u2, good true u2, true, rfl, gp4, .inr ⟨rfl, t4, rfl, g4⟩, (fun _ => .inr rfl), fun G dv s2 fr tol => ⟨(by show 3 ≤ sizeLine; decide), fun t ht => ?_⟩⟩
    obtain ⟨rk, s3⟩ := row_ok (K := K) (A := A) (x := x) (o := o) (w' := "greedy") b4.hS hla s2 fr tol ht (fun H' e => .inr (.inr (.inr (.inr (.inl ⟨rfl, u2, n2, rfl, fun H2 bt => (b4.c2.ex e).kd H2 (bt.ex (by simp)), dg u2⟩))))) (fun _ => ⟨_, _, b4.c2⟩) ho hnr
    refine ⟨rw, _, _, rfl, rfl, s3 _ _ p4, small (by rw [List.length_map]; omega), ?_⟩
    have tb5 := Tb.push hrS o4 s3 rk
    rw [l4] at tb5
    have x5 : Ex [rw] H5 (upd (upd G t (.tup [.str "greedy", .ref la, dv])) rw (.lst (ts4.map V.ref ++ [.ref t]))) := x4.trans ((Ex.same s3).trans (Ex.put (by simp)))
    have r5 : upd (upd G t (.tup [.str "greedy", .ref la, dv])) rw (.lst (ts4.map V.ref ++ [.ref t])) rw ≠ none := by rw [upd_same]; simp
    generalize upd (upd G t (.tup [.str "greedy", .ref la, dv])) rw (.lst (ts4.map V.ref ++ [.ref t])) = H9 at *
    clear rk s3 tol fr s2 ht hla p4 o4
    -- shaped
    have b5x := stage H9 x5 r5
    obtain ⟨ts5, p5, l5, o5⟩ := tb5
    refine ⟨_, rfl, .inl ⟨rfl, _, SqL.of p5⟩, _, rfl, _, rfl, (by show 2 ≤ sizeLine; decide), fun la hla => ?_⟩
    have gp5 := b5x.pr _ (Ex.same (Same.upd (o := .lst [v, .ref x]) (Same.refl _) hla))
    refine ⟨_, rfl, _, rfl, ro, pw, .non, "", o, .non, false, false, rfl, gp5, .inl ⟨rfl, rfl⟩, (fun z => nomatch z), fun G dv s2 fr tol => ⟨(by show 3 ≤ sizeLine; decide), fun t ht => ?_⟩⟩
    obtain ⟨rk, s3⟩ := row_ok (K := K) (A := A) (x := x) (o := o) (w' := "shaped") b5x.hS hla s2 fr tol ht (fun H' e => .inr (.inr (.inr (.inr (.inr (.inl ⟨rfl, v, ro, rfl, b5x.rc.at_ H' e, rfl⟩)))))) (fun z => nomatch z) ho b5.rc.bd
    refine ⟨rw, _, _, rfl, rfl, s3 _ _ p5, small (by rw [List.length_map]; omega), ?_⟩
    have tb6 := Tb.push hrS o5 s3 rk
    rw [l5] at tb6
    have x6 : Ex [rw] H5 (upd (upd G t (.tup [.str "shaped", .ref la, dv])) rw (.lst (ts5.map V.ref ++ [.ref t]))) := x5.trans ((Ex.same s3).trans (Ex.put (by simp)))
    have r6 : upd (upd G t (.tup [.str "shaped", .ref la, dv])) rw (.lst (ts5.map V.ref ++ [.ref t])) rw ≠ none := by rw [upd_same]; simp
    generalize upd (upd G t (.tup [.str "shaped", .ref la, dv])) rw (.lst (ts5.map V.ref ++ [.ref t])) = H10 at *
    clear rk s3 tol fr s2 ht hla p5 o5
    -- police
    have b6 := stage H10 x6 r6
    obtain ⟨ts6, p6, l6, o6⟩ := tb6
    refine ⟨_, rfl, .inl ⟨rfl, _, SqL.of p6⟩, _, rfl, _, rfl, t5, _, _, _, rfl, rfl, SqT.of (b6.q3 _ .refl), rfl, (by show 2 ≤ sizeLine; decide), fun la hla => ?_⟩
    have g6 := b6.q3 _ (Ex.same (Same.upd (o := .lst [.ref x, u3]) (Same.refl _) hla))
    have gp6 := b6.pr _ (Ex.same (Same.upd (o := .lst [.ref x, u3]) (Same.refl _) hla))
    refine ⟨_, rfl, _, rfl, none, pw, .ref t5, "count", o, u3, good false u3, true, rfl, gp6, .inr ⟨rfl, t5, rfl, g6⟩, (fun _ => .inr rfl), fun G dv s2 fr tol => ⟨(by show 3 ≤ sizeLine; decide), fun t ht => ?_⟩⟩
    obtain ⟨rk, s3⟩ := row_ok (K := K) (A := A) (x := x) (o := o) (w' := "police") b6.hS hla s2 fr tol ht (fun H' e => .inr (.inr (.inr (.inr (.inr (.inr ⟨rfl, u3, n3, rfl, fun H2 bt => (b6.c3.ex e).kd H2 (bt.ex (by simp)), dp u3⟩)))))) (fun _ => ⟨_, _, b6.c3⟩) ho hnr
    refine ⟨rw, _, _, rfl, rfl, s3 _ _ p6, small (by rw [List.length_map]; omega), ?_⟩
    have tb7 := Tb.push hrS o6 s3 rk
    rw [l6] at tb7
    have x7 : Ex [rw] H5 (upd (upd G t (.tup [.str "police", .ref la, dv])) rw (.lst (ts6.map V.ref ++ [.ref t]))) := x6.trans ((Ex.same s3).trans (Ex.put (by simp)))
    have r7 : upd (upd G t (.tup [.str "police", .ref la, dv])) rw (.lst (ts6.map V.ref ++ [.ref t])) rw ≠ none := by rw [upd_same]; simp
    generalize upd (upd G t (.tup [.str "police", .ref la, dv])) rw (.lst (ts6.map V.ref ++ [.ref t])) = H11 at *
    clear rk s3 tol fr s2 ht hla p6 o6
    obtain ⟨ts, hts, hlen, rows⟩ := tb7
    have nrx : rw ∉ [x] := fun z => by rw [List.mem_singleton] at z; rw [z] at rw5; exact hx5 rw5
    have cuA : CuL A H11 x l cs pp g o := cu5.same (fun b o' e => (x7.fresh rw5) b o' (by simp) e)
    have subx : ∀ a ∈ [x], a ∈ [rw, x] := by simp
    refine ⟨_, rfl, rw, rfl, ⟨_, SqL.of hts⟩, for_list (K := K) (a := rw) (xs := ts.map V.ref) (fun i σ H' => ∃ w1 w2 w3, σ = [some (.ref p), some v, some (oV ro), some (.ref x), some pw, some (.ref t3), some (.ref t4), some (.ref t5), some (.str dr.shown), some (.ref rw), w1, w2, w3] ∧ Ex [x] H11 H' ∧ CuL A H' x l cs pp g o)
      ⟨_, _, _, rfl, Ex.refl, cuA⟩ (fun i σ H' _ ⟨_, _, _, _, e, _⟩ => SqL.of (e _ _ nrx hts)) ?_ ?_⟩
    · rintro i y σ H' hy ⟨w1, w2, w3, rfl, e, cu⟩
      obtain ⟨t, ht, rfl⟩ : ∃ t ∈ ts, y = V.ref t := by
        have := List.mem_of_getElem? hy
        obtain ⟨t, ht, rfl⟩ := List.mem_map.mp this
        exact ⟨t, ht, rfl⟩
      obtain ⟨wd, la, xs, dv, out, dd, sz, f⟩ := (rows t ht).ex (e.mono subx)
      obtain ⟨a1, a2, a3, a4, a5⟩ := f H' .refl
      obtain ⟨y1, y2, y3⟩ : dd.showable = true ∧ dd.depth ≤ 60 ∧ dd.shown.length ≤ sizeLine := ⟨sz.sh, Nat.le_trans sz.dp (by decide), Nat.le_trans sz.ln (by rw [sizeLine_eq]; decide)⟩
      refine ⟨t, _, rfl, SqT.of a1, rfl, _, _, rfl, _, _, rfl, _, _, rfl, rfl, ?_⟩
      refine ⟨_, rfl, _, rfl, wd, la, xs, out, (fun G => But x H' G ∧ CuL A G x l cs pp g o), rfl, a2, .inl ⟨x, l, cs, pp, g, o, ⟨cu, hpp, hppn, hcn, hB⟩, a3, fun G b c => ⟨b, c⟩⟩, (fun G1 G2 ⟨b, c⟩ s => ⟨b.trans (But.of s), c.same s⟩), fun H2 v2 hR2 tol2 => ?_⟩
      obtain ⟨b2, c2⟩ := hR2
      obtain ⟨g1, g2, g3, g4, g5⟩ := f H2 (b2.ex (by simp))
      refine ⟨v2, dd, rfl, g5 v2 tol2, y1, y2, y3, _, rfl, dv, dd, rfl, g5 dv g4, y1, y2, y3, rfl, _, rfl, iteNS rfl ?_⟩
      exact ⟨_, _, _, rfl, e.trans (b2.ex (by simp)), c2⟩
    · rintro σ H' ⟨w1, w2, w3, rfl, e, cu⟩
      have bz := (stage H11 x7 r7).rc.lf
      refine ⟨_, rfl, v, dr, rfl, bz.dm _ (e.mono subx), z1, z2, z3, _, rfl, rfl, ?_⟩
      rw [decide_eq_true rfl]
      have hx0' : H x = none := e1.free hx0
      have hrH : H rw = none := e05.free rw5
      refine k H' ⟨fun b o' nb eb => ?_, ?_⟩
      · exact e _ _ (fun z => by rw [List.mem_singleton] at z; rw [z, hx0'] at eb; cases eb) ((x7.fresh rw5) _ _ (by simp) (e05.keep b o' nb eb))
      · obtain ⟨a, b, q1, q2⟩ := e05.rng
        exact ⟨a, b, e _ _ (fun z => by rw [List.mem_singleton] at z; exact nxp z.symm) ((x7.fresh rw5) _ _ (by simp) q1), q2⟩
end
end VK


namespace VK
open PySem PySem.Spec PyProof.Rows L2 VM
theorem bind_bd {f : Int → Int} {us : List Int} {a b : Int} (h : bindM f us = some (a, b)) : 0 ≤ a ∧ a ≤ us.length ∧ 0 ≤ b ∧ b ≤ us.length := by
  have lt : ∀ {p : Nat → Bool} {k i s : Nat}, firstN p k i = some s → i ≤ s ∧ s < i + k := by
    intro p k
    induction k with
    | zero => intro i s h; cases h
    | succ k ih =>
      intro i s h
      unfold firstN at h
      by_cases c : p i = true
      · rw [if_pos c] at h; cases h; omega
      · rw [if_neg c] at h
        have := ih h
        omega
  unfold bindM at h
  cases hh : firstN (fun i => decide (f ((i : Int) + 1) < tl us (i + 1) + 1)) us.length 0 with
  | none => rw [hh] at h; cases h
  | some s =>
    rw [hh] at h
    have := lt hh
    cases h
    omega
/-- the data of a pair -/
def dDuo : Option (Int × Int) → PyData
  | none => .none
  | some (a, b) => .tuple [.int a, .int b]
theorem Duo.dp {K : PySem.W.Frag} {H H' H2 : Hp} {v : V} {o : Option (Int × Int)} (h : Duo H H' v o) (s : Same H' H2) : Dp K H2 v (dDuo o) := by
  cases o with
  | none => cases h; exact .non
  | some z =>
    obtain ⟨a, b⟩ := z
    obtain ⟨t, rfl, _, h⟩ := h
    exact .tup (SqT.of (s _ _ h)) (.cons (.int a) (.cons (.int b) .nil))
theorem pair_sz {a b : Int} (ha : a.natAbs ≤ 1000) (hb : b.natAbs ≤ 1000) : VR.Sz 1 400 (.tuple [.int a, .int b]) := by
  have p1 : (1000 : Nat) < 10 ^ 100 := by decide +kernel
  refine (VR.Sz.tuple (k := 0) (L := 101) (n := 2) (fun d hd => ?_) (Nat.le_refl _)).mono (by decide) (by decide)
  simp only [List.mem_cons, List.not_mem_nil, or_false] at hd
  rcases hd with rfl | rfl
  · exact .int (Nat.lt_of_le_of_lt ha p1)
  · exact .int (Nat.lt_of_le_of_lt hb p1)
theorem duo_sz {o : Option (Int × Int)} (h : ∀ a b, o = some (a, b) → a.natAbs ≤ 1000 ∧ b.natAbs ≤ 1000) : VR.Sz 1 400 (dDuo o) := by
  cases o with
  | none => exact VR.Sz.none.mono (by decide) (by decide)
  | some z =>
    obtain ⟨a, b⟩ := z
    obtain ⟨h1, h2⟩ := h a b rfl
    exact pair_sz h1 h2
theorem dp_ints {K : PySem.W.Frag} {H : Hp} : ∀ us : List Int, DpAll K H (us.map V.int) (us.map PyData.int)
  | [] => .nil
  | u :: us => .cons (.int u) (dp_ints us)
/-- what a police shows -/
def shD (f : Int → Int) (q h r : Int) (cl : Bool) (es : List Int) : PyData := .list [.int h, .int q, .int r, .list (es.map PyData.int), dDuo (if h = 0 ∨ cl = true then none else bindM f es)]
theorem shD_sz {f : Int → Int} {q h r : Int} {cl : Bool} {es : List Int} (hh : h.natAbs < 10 ^ 100) (hq : q.natAbs < 10 ^ 100) (hr : r.natAbs < 10 ^ 100) (he : ∀ e ∈ es, e.natAbs < 10 ^ 100) (hn : es.length ≤ 20) : VR.Sz 3 20000 (shD f q h r cl es) := by
  refine (VR.Sz.list (k := 1) (L := 3000) (n := 5) (fun d hd => ?_) (by show 5 ≤ 5; decide)).mono (by omega) (by omega)
  simp only [List.mem_cons, List.not_mem_nil, or_false] at hd
  rcases hd with rfl | rfl | rfl | rfl | rfl
  · exact (VR.Sz.int hh).mono (by omega) (by omega)
  · exact (VR.Sz.int hq).mono (by omega) (by omega)
  · exact (VR.Sz.int hr).mono (by omega) (by omega)
  · exact (VR.Sz.ints he hn).mono (by omega) (by omega)
  · refine (duo_sz fun a b z => ?_).mono (by omega) (by omega)
    split at z
    · cases z
    · have := bind_bd z
      omega
def sp_l_shown (_ : PySem.W.Frag) (A : Ad) : Sp := fun vs H Q _ => ∃ (x c lc : Addr) (cs : List Int) (p g q h r : Int) (cl : Bool) (es : List Int) (dx le ll : Addr), vs = [.ref x] ∧ PolAt A H x c lc cs p g q h r cl es dx le ll ∧ 0 < p ∧ p ≤ cs.length ∧ cs.length ≤ 1000 ∧ es.length ≤ 20 ∧
  VR.Sz 3 20000 (shD (cvAt cs p g) q h r cl es) ∧ ∀ H', Same H H' → Q (.str (shD (cvAt cs p g) q h r cl es).shown) H'
section
variable {P : Program} {w : World} {K : PySem.W.Frag} {mg : Str → Option Value} {base : Heap} {A : Ad}
theorem ok_l_shown (T : Txt K mg A) : VG.FnG P w K mg base CX0 5 A.f_l_shown A.d_l_shown ["_law_police"] (sp_l_shown K A) := by
  have G_P_binding := ok_P_binding (P := P) (w := w) (base := base) T
  have G_P_held := ok_P_held (P := P) (w := w) (base := base) T
  have G_P_queue := ok_P_queue (P := P) (w := w) (base := base) T
  have G_P_record := ok_P_record (P := P) (w := w) (base := base) T
  have G_P_returned := ok_P_returned (P := P) (w := w) (base := base) T
  refine VG.okG0 T.F_l_shown sc_l_shown (fun vs H Q E h => ?_) (fun cdv A0 outer s H vs Q E hA hr h => ?_)
  · obtain ⟨x, c, lc, cs, p, g, q, h, r, cl, es, dx, le, ll, rfl, PA, hp, hpn, hn, hes, sz, k⟩ := h
    rfl
  · obtain ⟨x, c, lc, cs, p, g, q, h, r, cl, es, dx, le, ll, rfl, PA, hp, hpn, hn, hes, sz, k⟩ := h
    refine ⟨_, (pss_one (ps_ret (pe_callB (r := VG.rRepr K) (VG.call_repr hA hr.units) (by rfl) T.repr (by decide +kernel) (pa_cons (pe_lst (pa_cons (pe_prop (pv 0) T.clPolice T.pr_P_held G_P_held (hr.mono (by decide)) T.b_P_held .nil pass0 rfl) (pa_cons (pe_prop (pv 0) T.clPolice T.pr_P_queue G_P_queue (hr.mono (by decide)) T.b_P_queue .nil pass0 rfl) (pa_cons (pe_prop (pv 0) T.clPolice T.pr_P_returned G_P_returned (hr.mono (by decide)) T.b_P_returned .nil pass0 rfl) (pa_cons (pe_meth0 (pv 0) T.clPolice T.me_record G_P_record (hr.mono (by decide)) T.b_P_record .nil pass0) (pa_cons (pe_meth0 (pv 0) T.clPolice T.me_binding G_P_binding (hr.mono (by decide)) T.b_P_binding .nil pass0) pa_nil)))))) pa_nil)))), ?_⟩
    refine ⟨_, rfl, x, dx, _, rfl, PA.obj, x, c, q, h, r, cl, dx, le, ll, rfl, PA.obj, _, rfl, x, dx, _, rfl, PA.obj, x, c, q, h, r, cl, dx, le, ll, rfl, PA.obj, _, rfl, x, dx, _, rfl, PA.obj, x, c, q, h, r, cl, dx, le, ll, rfl, PA.obj,
      _, rfl, x, dx, _, rfl, PA.obj, pno _ _ _ _ _ _ _ (by decide +kernel) (by decide +kernel) (by decide +kernel) (by decide +kernel) (by decide +kernel) (by decide +kernel) (by decide +kernel), x, c, q, h, r, cl, dx, le, ll, es, rfl, PA.obj, PA.ent, fun H1 u s1 hu0 hu => ?_⟩
    refine ⟨_, rfl, x, dx, _, rfl, (PA.same s1).obj, pno _ _ _ _ _ _ _ (by decide +kernel) (by decide +kernel) (by decide +kernel) (by decide +kernel) (by decide +kernel) (by decide +kernel) (by decide +kernel), x, c, lc, cs, p, g, q, h, r, cl, es, dx, le, ll, rfl, PA.same s1, hp, hpn, hn, by omega, fun H2 v s2 duo => ⟨(by show 5 ≤ sizeLine; decide), fun L hL => ?_⟩⟩
    have s3 : Same H2 (upd H2 L (.lst [.int h, .int q, .int r, .ref u, v])) := Same.upd (Same.refl _) hL
    refine ⟨.ref L, shD (cvAt cs p g) q h r cl es, rfl, .lst (SqL.of upd_same) (.cons (.int h) (.cons (.int q) (.cons (.int r) (.cons (.lst (SqL.of (s3 _ _ (s2 _ _ hu))) (dp_ints es)) (.cons (duo.dp s3) .nil))))), sz.sh, Nat.le_trans sz.dp (by decide), Nat.le_trans sz.ln (by rw [sizeLine_eq]; decide), ?_⟩
    exact k _ ((s1.trans s2).trans s3)
end
end VK


namespace VK
open PySem PySem.Spec PyProof.Rows L2 VM
theorem kb_init2 {K : PySem.W.Frag} {mg : Str → Option Value} {A : Ad} (T : Txt K mg A) : ∃ mv : List Value, KBn K A.d_C_init ["self", "values", "period", "gain"] 2 ["period", "gain"] (fun us ws => us ++ ws) (fun vs zs => vs ++ zs) := by
  obtain ⟨mv, h⟩ := T.F_C_init.kbinds0 (ps := ["self", "values", "period", "gain"]) 2 ["period", "gain"] [] (fun us _ ws => us ++ ws) (by simp) (by simp) (fun a _ c => a.append c)
    (fun D doc pm an cdv ct us mv ws h1 h2 h3 => match us, mv, ws, h1, h2, h3 with | [_, _], [], [_, _], _, _, _ => rfl)
  exact ⟨mv, h⟩
theorem db_step {K : PySem.W.Frag} {mg : Str → Option Value} {A : Ad} (T : Txt K mg A) : ∃ ds, Vals [V.int 0, V.bl false] ds ∧ Binds K A.d_P_step ["self", "units", "leak", "closed"] ds :=
  T.F_P_step.binds0 (ps := ["self", "units", "leak", "closed"]) 2 (by simp) rfl (fun D doc pm an cdv ct us ks h1 h2 => match us, ks, h1, h2 with | [_, _], [_, _], _, _ => ⟨_, _, _, _, _, _, rfl, rfl, _, _, _, _, _, _, rfl, rfl, rfl⟩)
theorem passF {X : Cx} : Passes (L2.CX X.prog X.w) X (fun _ _ _ => False) := passes_call takes0 (fun _ _ _ _ h => h.elim)
theorem ok_two : OkRow [2, 2] 2 1 := ⟨by decide, by decide, by decide +kernel, by decide +kernel, fun i hi => by
  have hi : i + 1 < 2 := hi
  have : i = 0 := by omega
  subst this
  decide, .inr (.inl rfl), by decide, by decide, by decide, by decide +kernel⟩
theorem PolAt.ext {A : Ad} {H H' : Hp} {p x c lc : Addr} {cs : List Int} {pp g q h r : Int} {cl : Bool} {es : List Int} {dx le ll : Addr} (P : PolAt A H x c lc cs pp g q h r cl es dx le ll) (hr : Rng H p) (n1 : lc ≠ p) (n2 : le ≠ p) (n3 : ll ≠ p) (e : Ext p H H') :
    PolAt A H' x c lc cs pp g q h r cl es dx le ll := by
  have cu := P.cu.ext hr n1 e
  obtain ⟨y, z, hr, _⟩ := hr
  exact ⟨e.keep _ _ (fun w => by have := P.obj; rw [w, hr] at this; cases this) P.obj, cu, P.n1, P.n2, P.ncx, e.keep _ _ n2 P.ent, e.keep _ _ n3 P.lim, P.two⟩
/-- a police beside another one that steps -/
theorem PolAt.beside {A : Ad} {H H' : Hp} {x c lc : Addr} {cs : List Int} {pp g q h r : Int} {cl : Bool} {es : List Int} {dx le ll : Addr} {x2 : Addr} {q2 h2 r2 : Int} {cl2 : Bool} {es2 : List Int} {dx2 le2 ll2 : Addr}
    (P : PolAt A H x c lc cs pp g q h r cl es dx le ll) (R : PolAt A H x2 c lc cs pp g q2 h2 r2 cl2 es2 dx2 le2 ll2) (kp : ∀ b o, b ≠ x → b ≠ le → b ≠ ll → H b = some o → H' b = some o) (n0 : x2 ≠ x) (n1 : le2 ≠ le) (n2 : le2 ≠ ll) (n3 : ll2 ≠ le) (n4 : ll2 ≠ ll) :
    PolAt A H' x2 c lc cs pp g q2 h2 r2 cl2 es2 dx2 le2 ll2 := by
  have li : ∀ {a b : Addr} {xs : List V} {C d : Addr} {fs : List (Str × V)}, H a = some (.lst xs) → H b = some (.ins C d fs) → a ≠ b := fun h1 h2 z => by rw [z, h2] at h1; cases h1
  have il : ∀ {a b : Addr} {xs : List V} {C d : Addr} {fs : List (Str × V)}, H a = some (.ins C d fs) → H b = some (.lst xs) → a ≠ b := fun h1 h2 z => by rw [z, h2] at h1; cases h1
  obtain ⟨dc, w, b, c1, c2, c3⟩ := R.cu
  exact ⟨kp _ _ n0 (il R.obj P.ent) (il R.obj P.lim) R.obj, ⟨dc, w, b, kp _ _ P.ncx (il c1 P.ent) (il c1 P.lim) c1, kp _ _ (li c2 P.obj) P.n1 P.n2 c2, c3⟩, R.n1, R.n2, R.ncx, kp _ _ (li R.ent P.obj) n1 n2 R.ent, kp _ _ (li R.lim P.obj) n3 n4 R.lim, R.two⟩
theorem shaped2 (a b : Int) : SeqAt.shaped (.tuple [.int a, .int b]) = true := by rfl
theorem stE_bd {f : Int → Int} {es : List Int} {h u : Int} (hh : 0 ≤ h) (hu : 0 ≤ u) : 0 ≤ stE f es h u 0 false ∧ stE f es h u 0 false ≤ h + u := by
  unfold stE
  rw [if_neg (by decide)]
  omega
def sp_l_steps_right (_ : PySem.W.Frag) (_ : Ad) : Sp := fun vs H Q _ => ∃ (p : Addr), vs = [.ref p] ∧ Rng H p ∧ ∀ H', Ext p H H' → Q (.bl true) H'
section
variable {P : Program} {w : World} {K : PySem.W.Frag} {mg : Str → Option Value} {base : Heap} {A : Ad}
theorem ok_l_steps_right (T : Txt K mg A) : VG.FnG P w K mg base CX0 12 A.f_l_steps_right A.d_l_steps_right ["_law_rng_here"] (sp_l_steps_right K A) := by
  have G_C_init := ok_C_init (P := P) (w := w) (base := base) T
  have G_P_init := ok_P_init (P := P) (w := w) (base := base) T
  have G_P_step := ok_P_step (P := P) (w := w) (base := base) T
  have G_l_count := ok_l_count (P := P) (w := w) (base := base) T
  have G_l_draw := ok_l_draw (P := P) (w := w) (base := base) T
  have G_l_due := ok_l_due (P := P) (w := w) (base := base) T
  have G_l_fault := ok_l_fault (P := P) (w := w) (base := base) T
  have G_l_shown := ok_l_shown (P := P) (w := w) (base := base) T
  obtain ⟨mv1, kb_Curve_period_gain⟩ := kb_init2 T
  obtain ⟨mv2, kb_Police_queue⟩ := kb_queue T
  obtain ⟨dt, hvS, hbS⟩ := db_step T
  refine VG.okG0 T.F_l_steps_right sc_l_steps_right (fun vs H Q E h => ?_) (fun cdv A0 outer s H vs Q E hA hr h => ?_)
  · obtain ⟨p, rfl, hR, k⟩ := h
    rfl
  · obtain ⟨p, rfl, hR, k⟩ := h
    refine ⟨_, (pss_cons (ps_set (i := 1) sc_l_steps_right.nd rfl (by first | exact Or.inl rfl | exact Or.inr rfl) (pe_makeK (n := 1) T.M_Curve G_C_init (hr.mono (by decide)) rfl T.m_Curve kb_Curve_period_gain pass0 (pa_cons (pe_lst (pa_cons pe_int (pa_cons pe_int pa_nil))) pa_nil) (pk_cons pe_int (pk_cons pe_int pk_nil))))
    (pss_cons (ps_par (i := 2) (j := 3) (by rfl) sc_l_steps_right.nd rfl rfl (by decide) rfl rfl (pa_cons (pe_makeK (n := 1) T.M_Police G_P_init (hr.mono (by decide)) rfl T.m_Police kb_Police_queue passF (pa_cons (pv 1) pa_nil) (pk_cons pe_int pk_nil)) (pa_cons (pe_makeK (n := 1) T.M_Police G_P_init (hr.mono (by decide)) rfl T.m_Police kb_Police_queue passF (pa_cons (pv 1) pa_nil) (pk_cons pe_int pk_nil)) pa_nil)) (by rfl))
    (pss_cons (ps_for PassesOwn.never rfl (pi_range1 rfl T.range (pa_cons pe_int pa_nil)) (pg_name (i := 4) sc_l_steps_right.nd rfl (by first | exact Or.inl rfl | exact Or.inr rfl))
      (pss_cons (ps_set (i := 5) sc_l_steps_right.nd rfl (by first | exact Or.inl rfl | exact Or.inr rfl) (pe_call G_l_draw (hr.mono (by decide)) rfl T.m_l_draw T.k_l_draw T.b_l_draw .nil pass0 (pa_cons (pv 0) (pa_cons pe_int pa_nil))))
    (pss_cons (ps_if (pt_cmpR (op_neD hr.units) (pe_meth (pv 2) T.clPolice T.me_step G_P_step (hr.mono (by decide)) hbS hvS passF (pa_cons (pv 5) pa_nil)) (pe_meth (pv 3) T.clPolice T.me_step G_P_step (hr.mono (by decide)) hbS hvS passF (pa_cons (pv 5) pa_nil)) (nomark _)) (pss_one (ps_ret pe_bl)) pss_nil)
    (pss_cons (ps_par (i := 6) (j := 7) (by rfl) sc_l_steps_right.nd rfl rfl (by decide) rfl rfl (pa_cons (pe_call G_l_count (hr.mono (by decide)) rfl T.m_l_count T.k_l_count T.b_l_count .nil pass0 (pa_cons (pv 0) (pa_cons pe_non pa_nil))) (pa_cons (pe_call G_l_count (hr.mono (by decide)) rfl T.m_l_count T.k_l_count T.b_l_count .nil pass0 (pa_cons (pv 0) (pa_cons pe_non pa_nil))) pa_nil)) (by rfl))
    (VG.pss_join (ps_set (i := 8) sc_l_steps_right.nd rfl (by first | exact Or.inl rfl | exact Or.inr rfl) (pe_orT (pe_call G_l_due (hr.mono (by decide)) rfl T.m_l_due T.k_l_due T.b_l_due .nil pass0 (pa_cons pe_non (pa_cons pe_non (pa_cons (pv 6) (pa_cons pe_str pa_nil))))) (pe_one (pe_call G_l_due (hr.mono (by decide)) rfl T.m_l_due T.k_l_due T.b_l_due .nil pass0 (pa_cons pe_non (pa_cons pe_non (pa_cons (pv 7) (pa_cons pe_str pa_nil))))))))
    (VG.pss_join (ps_if (pt_cmp (pc_notN (pv 8)) rfl) (pss_one (ps_if (pt_cmpR op_ne (pe_callB (r := VQ.rReprM K) (VQ.call_reprM hA hr.units) (by rfl) T.repr (by decide +kernel) (pa_cons (pe_call G_l_fault (hr.mono (by decide)) rfl T.m_l_fault T.k_l_fault T.b_l_fault .nil pass0 (pa_cons pe_str (pa_cons (pe_lst (pa_cons (pv 2) (pa_cons (pe_ix (r := rIxT K) ix_tup (pv 6) pe_int (fun _ _ => rfl)) (pa_cons (pe_ix (r := rIxT K) ix_tup (pv 7) pe_int (fun _ _ => rfl)) pa_nil)))) pa_nil))) pa_nil)) (pe_callB (r := VQ.rReprM K) (VQ.call_reprM hA hr.units) (by rfl) T.repr (by decide +kernel) (pa_cons (pv 8) pa_nil)) (nomark _)) (pss_one (ps_ret pe_bl)) pss_nil)) pss_nil)
    (pss_one (ps_if (pt_cmpR op_ne (VG.pe_callG G_l_shown hA (hr.mono (by decide)) rfl T.m_l_shown T.k_l_shown T.b_l_shown pass0 (pa_cons (pv 2) pa_nil)) (VG.pe_callG G_l_shown hA (hr.mono (by decide)) rfl T.m_l_shown T.k_l_shown T.b_l_shown pass0 (pa_cons (pv 3) pa_nil)) (nomark _)) (pss_one (ps_ret pe_bl)) pss_nil))))))))
    (pss_one (ps_ret pe_bl))))), ?_⟩
    have fin : ∀ (H2 H3 : Hp) (l x dx dx' l' : Addr) (xs : List Int) (pp g : Int) (o : Option (Int × Int)), Ext p H H2 → H2 l = none → upd H2 l (.lst (xs.map V.int)) x = none → upd H2 l (.lst (xs.map V.int)) dx = none → dx ≠ x → OkRow xs pp g → First (cvAt xs pp g) o →
        (∀ b v, b ≠ x → upd (upd (upd H2 l (.lst (xs.map V.int))) dx (.own x)) x (.ins A.Curve dx []) b = some v → H3 b = some v) → upd (upd (upd H2 l (.lst (xs.map V.int))) dx (.own x)) x (.ins A.Curve dx []) l' = none →
        H3 x = some (.ins A.Curve dx' (cfs l' (formP xs pp g).1 (formP xs pp g).2 false .non)) → H3 l' = some (.lst ((formV xs pp g).map V.int)) →
        Ext p H H3 ∧ H x = none ∧ H l' = none ∧ CuL A H3 x l' (formV xs pp g) (formP xs pp g).1 (formP xs pp g).2 o ∧ 0 < (formP xs pp g).1 ∧ (formP xs pp g).1 ≤ (formV xs pp g).length ∧ (formV xs pp g).length ≤ 1000 ∧ BrkR (cvAt (formV xs pp g) (formP xs pp g).1 (formP xs pp g).2) (formV xs pp g).length o := by
      intro H2 H3 l x dx dx' l' xs pp g o e2 hl hx hdx hne R F keep hl' c1 c2
      have ppos : 0 < pp := by rcases R.per with h | h | h | h | h | h <;> omega
      obtain ⟨a1, a2, a3, a4, a5⟩ := form_spec (vs := xs) (g := g) ppos R.pn
      have el := e2.new (o := .lst (xs.map V.int)) hl
      have s3 : Same (upd H2 l (.lst (xs.map V.int))) H3 := fun b v e => keep b v (ne_of_none e hx) (by rw [upd_ne (ne_of_none e hx), upd_ne (ne_of_none e hdx)]; exact e)
      have hl2 : upd H2 l (.lst (xs.map V.int)) l' = none := by
        have n1 : l' ≠ x := fun z => by rw [z, upd_same] at hl'; cases hl'
        rw [upd_ne n1] at hl'
        have n2 : l' ≠ dx := fun z => by rw [z, upd_same] at hl'; cases hl'
        rw [upd_ne n2] at hl'; exact hl'
      exact ⟨el.same s3, el.free hx, el.free hl2, ⟨dx', false, _, c1, c2, fun z => nomatch z⟩, a1, a3, by have := R.l2; omega, form_brk ppos R.pn F⟩
    refine ⟨(by show 2 ≤ sizeLine; decide), fun l hl => ⟨rfl, rfl, fun c dc hc hdc hne => ?_⟩⟩
    have hl2 : upd (upd (upd H l (.lst [.int 2, .int 2])) dc (.own c)) c (.ins A.Curve dc []) l = some (.lst [.int 2, .int 2]) := by
      rw [upd_ne (ne_of_none upd_same hc), upd_ne (ne_of_none upd_same hdc)]; exact upd_same
    refine ⟨c, dc, l, [2, 2], 2, 1, rfl, upd_same, SqL.of hl2, ok_two, fun H3 dc' lc keep hlc c1 c2 => ⟨rfl, ?_⟩⟩
    obtain ⟨e3, c0, lc0, cu3, hpp, hppn, hcn, hB⟩ := fin H H3 l c dc dc' lc [2, 2] 2 1 none (Ext.refl hR) hl hc hdc hne ok_two first_two keep hlc c1 c2
    generalize formV [2, 2] 2 1 = cs at *
    generalize (formP [2, 2] 2 1).1 = pp at *
    generalize (formP [2, 2] 2 1).2 = g at *
    clear fin keep hl2 c1 c2
    have mk : ∀ (G : Hp) (x y : Addr) (Q' : VK), CuL A G c lc cs pp g none → G x = none → G y = none → y ≠ x →
        (∀ (H' : Hp) (le ll : Addr), But c G H' → G le = none → G ll = none → PolAt A H' x c lc cs pp g 3 0 0 false [] y le ll → Q' .non H') →
        sp_P_init K A [.ref x, .ref c, .int 3] (upd (upd G y (.own x)) x (.ins A.Police y [])) Q' (fun _ _ _ => False) := by
      intro G x y Q' cu hx hy hne kk
      have s0 : Same G (upd (upd G y (.own x)) x (.ins A.Police y [])) := Same.upd (Same.upd (Same.refl _) hy) hx
      have ncx : c ≠ x := fun z => by obtain ⟨_, _, _, e, _⟩ := cu; rw [z, hx] at e; cases e
      refine ⟨x, y, c, lc, cs, pp, g, none, .int 3, "int", rfl, upd_same, cu.same s0, hpp, hppn, hcn, hB, ncx, fun H' _ => Kd.int 3, fun q z e q0 H' le ll kp f1 f2 n1 n2 n3 PA => ?_, (fun _ e => by cases e), True.intro⟩
      cases e
      exact kk H' le ll (fun b v nb e => kp b v (ne_of_none e hx) nb (s0 _ _ e)) (s0.free f1) (s0.free f2) PA
    refine ⟨_, rfl, rfl, rfl, fun x1 y1 hx1 hy1 hne1 => mk H3 x1 y1 _ cu3 hx1 hy1 hne1 fun H4 le1 ll1 b4 fe1 fl1 P1 => ⟨rfl, ?_⟩⟩
    refine ⟨_, rfl, rfl, rfl, fun x2 y2 hx2 hy2 hne2 => mk H4 x2 y2 _ P1.cu hx2 hy2 hne2 fun H5 le2 ll2 b5 fe2 fl2 P2 => ⟨rfl, ?_⟩⟩
    refine ⟨_, _, rfl, ?_⟩
    have npc : p ≠ c := fun z => by obtain ⟨_, _, e, _⟩ := hR; rw [z, c0] at e; cases e
    have rng4 : Rng H4 p := by obtain ⟨a, b, e, q⟩ := e3.rng; exact ⟨a, b, b4 _ _ npc e, q⟩
    have rng5 : Rng H5 p := by obtain ⟨a, b, e, q⟩ := rng4; exact ⟨a, b, b5 _ _ npc e, q⟩
    have old4 : ∀ b v, H b = some v → b ≠ p → H4 b = some v := fun b v e nb => b4 _ _ (ne_of_none e c0) (e3.keep b v nb e)
    have fr4 : ∀ {b : Addr}, H4 b = none → H b = none := fun {b} z => by
      cases e : H b with
      | none => rfl
      | some v =>
        exfalso
        by_cases nb : b = p
        · obtain ⟨_, _, q, _⟩ := rng4
          rw [nb, q] at z; cases z
        · rw [old4 b v e nb] at z; cases z
    have e5 : Ext p H H5 := ⟨fun b v nb e => b5 _ _ (ne_of_none e c0) (old4 b v e nb), rng5⟩
    have nlc : lc ≠ p := hR.ne lc0
    have m1 : le1 ≠ p := e3.rng.ne fe1
    have m2 : ll1 ≠ p := e3.rng.ne fl1
    have m3 : le2 ≠ p := rng4.ne fe2
    have m4 : ll2 ≠ p := rng4.ne fl2
    have g1 : H x1 = none := e3.free hx1
    have g2 : H le1 = none := e3.free fe1
    have g3 : H ll1 = none := e3.free fl1
    have g4 : H x2 = none := fr4 hx2
    have g5 : H le2 = none := fr4 fe2
    have g6 : H ll2 = none := fr4 fl2
    have q0 : x2 ≠ x1 := fun z => by have := P1.obj; rw [← z, hx2] at this; cases this
    have q1 : le2 ≠ le1 := fun z => by have := P1.ent; rw [← z, fe2] at this; cases this
    have q2 : le2 ≠ ll1 := fun z => by have := P1.lim; rw [← z, fe2] at this; cases this
    have q3 : ll2 ≠ le1 := fun z => by have := P1.ent; rw [← z, fl2] at this; cases this
    have q4 : ll2 ≠ ll1 := fun z => by have := P1.lim; rw [← z, fl2] at this; cases this
    have P1 := P1.but b5 P2.cu
    clear mk b4 b5 hx1 hy1 hne1 hx2 hy2 hne2 fe1 fl1 fe2 fl2 old4 fr4
    refine ⟨_, rfl, by omega, by omega, ?_⟩
    refine for_range (lo := 0) (n := 4) (fun i σ H' => ∃ w4 w5 w6 w7 w8 h r es, σ = [some (.ref p), some (.ref c), some (.ref x1), some (.ref x2), w4, w5, w6, w7, w8] ∧ Ext p H H' ∧ PolAt A H' x1 c lc cs pp g 3 h r false es y1 le1 ll1 ∧ PolAt A H' x2 c lc cs pp g 3 h r false es y2 le2 ll2 ∧
        0 ≤ h ∧ h ≤ 3 ∧ 0 ≤ r ∧ r ≤ 10 * (i : Int) ∧ es.length = i ∧ ∀ e ∈ es, 0 ≤ e ∧ e ≤ 10)
      ⟨_, _, _, _, _, 0, 0, [], rfl, e5, P1, P2, by decide, by decide, by decide, by decide, rfl, fun e he => by cases he⟩ ?_ ?_
    · rintro i σ H6 hi ⟨w4, w5, w6, w7, w8, h, r, es, rfl, e6, P1, P2, h0, h3, r0, r1, hes, heb⟩
      refine ⟨_, rfl, p, 5, rfl, e6.rng, by decide, by decide, fun H7 u e7 u0 u1 => ?_⟩
      have P1 := P1.ext e6.rng nlc m1 m2 e7
      have P2 := P2.ext e6.rng nlc m3 m4 e7
      have e7 := e6.trans e7
      refine ⟨_, rfl, x1, y1, _, rfl, P1.obj, pno _ _ _ _ _ _ _ (by decide +kernel) (by decide +kernel) (by decide +kernel) (by decide +kernel) (by decide +kernel) (by decide +kernel) (by decide +kernel), _, rfl, x1, c, lc, cs, pp, g, 3, h, r, false, es, y1, le1, ll1, .int u, .int 0, false, "int", "int", rfl, P1, hpp, hppn, hcn, by omega, Kd.int u, Kd.int 0, fun a b ea eb a0 b0 H8 t1 kp1 ft1 ht1 Q1 => ?_, (fun z => by rw [cnt_int u0] at z; cases z), (fun _ z => by rw [cnt_int (show (0 : Int) ≤ 0 by decide)] at z; cases z)⟩
      cases ea
      cases eb
      have P2 := P1.beside P2 kp1 q0 q1 q2 q3 q4
      refine ⟨_, rfl, x2, y2, _, rfl, P2.obj, pno _ _ _ _ _ _ _ (by decide +kernel) (by decide +kernel) (by decide +kernel) (by decide +kernel) (by decide +kernel) (by decide +kernel) (by decide +kernel), _, rfl, x2, c, lc, cs, pp, g, 3, h, r, false, es, y2, le2, ll2, .int u, .int 0, false, "int", "int", rfl, P2, hpp, hppn, hcn, by omega, Kd.int u, Kd.int 0, fun a b ea eb a0 b0 H9 t2 kp2 ft2 ht2 Q2 => ?_, (fun z => by rw [cnt_int u0] at z; cases z), (fun _ z => by rw [cnt_int (show (0 : Int) ≤ 0 by decide)] at z; cases z)⟩
      cases ea
      cases eb
      have P1 := P2.beside Q1 kp2 (Ne.symm q0) (Ne.symm q1) (Ne.symm q3) (Ne.symm q2) (Ne.symm q4)
      have P2' := Q2
      obtain ⟨sa, sb⟩ := stE_bd (f := cvAt cs pp g) (es := es) h0 u0
      have ht1' := kp2 t1 _ (ne_of ht1 P2.obj (fun z => by cases z)) (ne_of ht1 P2.ent (fun z => by cases z)) (ne_of ht1 P2.lim (fun z => by cases z)) ht1
      have r7 := e7.rng
      have e8 : Ext p H H8 := ⟨fun b v nb e => kp1 b v (ne_of_none e g1) (ne_of_none e g2) (ne_of_none e g3) (e7.keep b v nb e), by
        obtain ⟨y, z, q, t⟩ := r7
        exact ⟨y, z, kp1 _ _ (fun w => by rw [w] at hR; obtain ⟨_, _, q, _⟩ := hR; rw [q] at g1; cases g1) (Ne.symm m1) (Ne.symm m2) q, t⟩⟩
      have e9 : Ext p H H9 := ⟨fun b v nb e => kp2 b v (ne_of_none e g4) (ne_of_none e g5) (ne_of_none e g6) (e8.keep b v nb e), by
        obtain ⟨y, z, q, t⟩ := e8.rng
        exact ⟨y, z, kp2 _ _ (fun w => by rw [w] at hR; obtain ⟨_, _, q, _⟩ := hR; rw [q] at g4; cases g4) (Ne.symm m3) (Ne.symm m4) q, t⟩⟩
      clear kp1 kp2 Q1 Q2 ft1 ft2 P2 r7 e8
      have es' : (es ++ [stE (cvAt cs pp g) es h u 0 false]).length = i + 1 := by rw [List.length_append, hes]; rfl
      have eb' : ∀ e ∈ es ++ [stE (cvAt cs pp g) es h u 0 false], 0 ≤ e ∧ e ≤ 10 := fun e he => by
        rcases List.mem_append.mp he with he | he
        · exact heb e he
        · rw [List.mem_singleton] at he; subst he; omega
      generalize stE (cvAt cs pp g) es h u 0 false = sv at *
      generalize es ++ [sv] = es2 at *
      obtain ⟨hh, eh⟩ : ∃ hh, hh = min (h + u - sv) 3 := ⟨_, rfl⟩
      obtain ⟨rr, er⟩ : ∃ rr, rr = r + (h + u - sv - min (h + u - sv) 3) := ⟨_, rfl⟩
      rw [← er, ← eh] at P1 P2'
      have h0' : 0 ≤ hh := by omega
      have h3' : hh ≤ 3 := by omega
      have r0' : 0 ≤ rr := by omega
      have r1' : rr ≤ 10 * ((i + 1 : Nat) : Int) := by omega
      refine ⟨.tuple [.int sv, .int (h + u - sv - min (h + u - sv) 3)], .tuple [.int sv, .int (h + u - sv - min (h + u - sv) 3)], .tup (SqT.of ht1') (.cons (.int _) (.cons (.int _) .nil)), .tup (SqT.of ht2) (.cons (.int _) (.cons (.int _) .nil)), shaped2 _ _, shaped2 _ _, _, rfl, ?_⟩
      rw [show (!PyData.eqv (.tuple [.int sv, .int (h + u - sv - min (h + u - sv) 3)]) (.tuple [.int sv, .int (h + u - sv - min (h + u - sv) 3)])) = false by simp [PyData.eqv, PyData.eqvAll]]
      refine iteF ?_
      have hS9 : ∀ a ∈ [p], H9 a ≠ none := fun a ha => by
        rw [List.mem_singleton] at ha; subst ha
        obtain ⟨_, _, z, _⟩ := e9.rng; rw [z]; simp
      refine ⟨_, rfl, p, [p], false, rfl, e9.rng, hS9, by simp, fun HA t3 v1 d1 n1 eA f3 ht3 lf1 => ?_⟩
      have hSA : ∀ a ∈ [p], HA a ≠ none := fun a ha z => hS9 a ha (eA.free z)
      refine ⟨_, rfl, p, [p], false, rfl, eA.rng, hSA, by simp, fun HB t4 v2 d2 n2 eB f4 ht4 lf2 => ⟨_, _, rfl, ?_⟩⟩
      have P1 := (P1.ext e9.rng nlc m1 m2 eA).ext eA.rng nlc m1 m2 eB
      have P2 := (P2'.ext e9.rng nlc m3 m4 eA).ext eA.rng nlc m3 m4 eB
      have ht3 := eB.keep _ _ (e9.rng.ne f3) ht3
      have lf1 := lf1.ex (Ex.ext eB (by simp))
      have e11 := (e9.trans eA).trans eB
      have nlen : ¬ (("count" : Str) = "length") := by decide +kernel
      have dO : ∀ v, dueO "count" none none true (good false v) v = if cnt v then .fine else .coun v := fun v => by
        unfold dueO good
        rw [if_neg nlen]
        rfl
      refine ⟨fun σ' G => ∃ dv out, σ' = [some (.ref p), some (.ref c), some (.ref x1), some (.ref x2), some (.int (0 + (i : Nat))), some (.int u), some (.ref t3), some (.ref t4), some dv] ∧ Same HB G ∧ Tol G dv out ∧
        (out = .fine ∨ (cnt v1 = false ∧ out = .coun v1) ∨ (cnt v1 = true ∧ cnt v2 = false ∧ out = .coun v2)), ?_, ?_⟩
      · refine ⟨_, rfl, none, .non, .ref t3, "count", none, v1, good false v1, true, rfl, .inl ⟨rfl, rfl⟩, .inr ⟨rfl, t3, rfl, ht3⟩, (fun _ => .inr rfl), fun G dv s fr tol => ?_⟩
        have tol : Tol G dv (dueO "count" none none true (good false v1) v1) := tol
        rw [dO] at tol
        cases c1 : cnt v1 with
        | false =>
          rw [c1] at tol
          rcases tol with ⟨z, _⟩ | ⟨_, t, rfl, ht⟩
          · cases z
          · exact ⟨true, truL (SqL.of ht), iteT ⟨.ref t, .coun v1, rfl, s, .inr ⟨(fun z => nomatch z), t, rfl, ht⟩, .inr (.inl ⟨rfl, rfl⟩)⟩⟩
        | true =>
          rw [c1] at tol
          rcases tol with ⟨_, rfl⟩ | ⟨z, _⟩
          · refine ⟨false, rfl, iteF ?_⟩
            refine ⟨_, rfl, none, .non, .ref t4, "count", none, v2, good false v2, true, rfl, .inl ⟨rfl, rfl⟩, .inr ⟨rfl, t4, rfl, s _ _ ht4⟩, (fun _ => .inr rfl), fun G2 dv2 s2 fr2 tol2 => ?_⟩
            have tol2 : Tol G2 dv2 (dueO "count" none none true (good false v2) v2) := tol2
            rw [dO] at tol2
            refine ⟨dv2, _, rfl, s.trans s2, tol2, ?_⟩
            cases c2 : cnt v2 with
            | false => exact .inr (.inr ⟨rfl, rfl, rfl⟩)
            | true => exact .inl rfl
          · exact absurd rfl z
      · rintro σ' G ⟨dv, out, rfl, sG, tol, cases⟩
        have hd : ∃ dd, VR.Sz 3 7000 dd ∧ ∀ H', Ex [p] HB H' → ∀ v, Tol H' v out → VQ.Dm K H' v dd := tol_dm (fun z hz => by
          rcases cases with rfl | ⟨_, rfl⟩ | ⟨_, _, rfl⟩
          · rcases hz with hz | hz <;> cases hz
          · rcases hz with hz | hz <;> cases hz
            exact ⟨_, _, lf1⟩
          · rcases hz with hz | hz <;> cases hz
            exact ⟨_, _, lf2⟩) (fun a b z => by rcases cases with rfl | ⟨_, rfl⟩ | ⟨_, _, rfl⟩ <;> cases z) (fun i z => by rcases cases with rfl | ⟨_, rfl⟩ | ⟨_, _, rfl⟩ <;> cases z)
        obtain ⟨dd, sz, dm⟩ := hd
        obtain ⟨y1', y2', y3'⟩ : dd.showable = true ∧ dd.depth ≤ 60 ∧ dd.shown.length ≤ sizeLine := ⟨sz.sh, Nat.le_trans sz.dp (by decide), Nat.le_trans sz.ln (by rw [sizeLine_eq]; decide)⟩
        refine ⟨fun σ' G2 => σ' = [some (.ref p), some (.ref c), some (.ref x1), some (.ref x2), some (.int (0 + (i : Nat))), some (.int u), some (.ref t3), some (.ref t4), some dv] ∧ Same HB G2, ?_, ?_⟩
        · rcases id tol with ⟨z, rfl⟩ | ⟨z, t, rfl, ht⟩
          · exact ⟨_, rfl, _, rfl, iteF ⟨rfl, sG⟩⟩
          · refine ⟨_, rfl, _, rfl, iteT ?_⟩
            refine ⟨_, rfl, _, rfl, t3, _, _, _, rfl, rfl, SqT.of (sG _ _ ht3), rfl, _, rfl, t4, _, _, _, rfl, rfl, SqT.of (sG _ _ ht4), rfl, (by show 3 ≤ sizeLine; decide), fun la hla => ?_⟩
            have sL : Same G (upd G la (.lst [.ref x1, v1, v2])) := Same.upd (Same.refl _) hla
            have sBL := sG.trans sL
            refine ⟨"step", la, _, out, (fun G' => Same (upd G la (.lst [.ref x1, v1, v2])) G'), rfl, SqL.of upd_same, .inr ⟨⟨rfl, x1, c, lc, cs, pp, g, 3, hh, rr, false, es2, y1, le1, ll1, v1, v2, n1, n2, rfl, P1.same sBL, hpp, hppn, hcn, by omega, lf1.kd _ (Ex.same sBL), lf2.kd _ (Ex.same sBL), ?_⟩, fun G' s => s⟩, (fun G1 G2 a b => a.trans b), fun G2 w2 s2 tol2 => ?_⟩
            · rcases cases with rfl | ⟨a1, a2⟩ | ⟨a1, a2, a3⟩
              · exact absurd rfl z
              · exact .inl ⟨a1, a2⟩
              · exact .inr ⟨a1, a2, a3⟩
            · have s3 := sBL.trans s2
              have tol3 : Tol G2 (.ref t) out := .inr ⟨z, t, rfl, s2 _ _ (sL _ _ ht)⟩
              refine ⟨w2, dd, rfl, dm G2 (Ex.same s3) w2 tol2, y1', y2', y3', _, rfl, .ref t, dd, rfl, dm G2 (Ex.same s3) _ tol3, y1', y2', y3', rfl, _, rfl, iteNS rfl ?_⟩
              exact ⟨rfl, s3⟩
        · rintro σ' G2 ⟨rfl, s2⟩
          have szP : VR.Sz 3 20000 (shD (cvAt cs pp g) 3 hh rr false es2) := shD_sz (by
            have : hh.natAbs ≤ 3 := by omega
            exact Nat.lt_of_le_of_lt this (by decide)) (by decide) (by
            have : rr.natAbs ≤ 40 := by omega
            exact Nat.lt_of_le_of_lt this (by decide)) (fun e he => by
            have := eb' e he
            have : e.natAbs ≤ 10 := by omega
            exact Nat.lt_of_le_of_lt this (by decide)) (by omega)
          refine ⟨_, rfl, x1, c, lc, cs, pp, g, 3, hh, rr, false, es2, y1, le1, ll1, rfl, P1.same s2, hpp, hppn, hcn, by omega, szP, fun G3 s3 => ?_⟩
          refine ⟨_, rfl, x2, c, lc, cs, pp, g, 3, hh, rr, false, es2, y2, le2, ll2, rfl, P2.same (s2.trans s3), hpp, hppn, hcn, by omega, szP, fun G4 s4 => ⟨rfl, _, rfl, iteNS rfl ?_⟩⟩
          have s5 := s2.trans (s3.trans s4)
          exact ⟨_, _, _, _, _, hh, rr, es2, rfl, e11.same s5, P1.same s5, P2.same s5, h0', h3', r0', r1', es', eb'⟩
    · rintro σ H' ⟨w4, w5, w6, w7, w8, h, r, es, rfl, e6, P1, P2, h0, h3, r0, r1, hes, heb⟩
      exact k H' e6
end
end VK


namespace VK
open PySem PySem.Spec PyProof.Rows L2 VM
def spL (K : PySem.W.Frag) : Sp := fun vs H Q _ => ∃ (a : Addr) (ns : List Int), vs = [.ref a] ∧ SqL K H a (ns.map V.int) ∧ ns.length ≤ 63 ∧ ∀ H', Q (.bl true) H'
def sp_law (K : PySem.W.Frag) (_ : Ad) : Sp := spL K
section
variable {P : Program} {w : World} {K : PySem.W.Frag} {mg : Str → Option Value} {base : Heap} {A : Ad}
theorem ok_law (T : Txt K mg A) : VG.FnG P w K mg base CX0 13 A.f_law A.d_law ["_law_script"] (sp_law K A) := by
  have G_l_calls_right := ok_l_calls_right (P := P) (w := w) (base := base) T
  have G_l_rng := ok_l_rng (P := P) (w := w) (base := base) T
  have G_l_steps_right := ok_l_steps_right (P := P) (w := w) (base := base) T
  refine VG.okG0 T.F_law sc_law (fun vs H Q E h => ?_) (fun cdv A0 outer s H vs Q E hA hr h => ?_)
  · obtain ⟨a, ns, rfl, hS, hn, k⟩ := h
    rfl
  · obtain ⟨a, ns, rfl, hS, hn, k⟩ := h
    refine ⟨_, (pss_cons (ps_for PassesOwn.never rfl (pi_range1 rfl T.range (pa_cons (pe_callB (call_max2 rfl) (by rfl) T.max (by decide +kernel) (pa_cons pe_int (pa_cons (pe_callB (call_min2 rfl) (by rfl) T.min (by decide +kernel) (pa_cons pe_int (pa_cons (pe_callB (r := VG.rLen K) VG.call_len (by rfl) T.len (by decide +kernel) (pa_cons (pv 0) pa_nil)) pa_nil))) pa_nil))) pa_nil)) (pg_name (i := 1) sc_law.nd rfl (by first | exact Or.inl rfl | exact Or.inr rfl))
      (pss_cons (ps_set (i := 2) sc_law.nd rfl (by first | exact Or.inl rfl | exact Or.inr rfl) (pe_call G_l_rng (hr.mono (by decide)) rfl T.m_l_rng T.k_l_rng T.b_l_rng .nil pass0 (pa_cons (pv 0) (pa_cons (pv 1) pa_nil))))
    (pss_one (ps_for PassesOwn.never rfl (pi_range1 rfl T.range (pa_cons pe_int pa_nil)) (pg_name (i := 3) sc_law.nd rfl (by first | exact Or.inl rfl | exact Or.inr rfl))
      (pss_one (ps_if (PW.pt (pw_or (pt_not (pt_val (VG.pe_callG G_l_calls_right hA (hr.mono (by decide)) rfl T.m_l_calls_right T.k_l_calls_right T.b_l_calls_right pass0 (pa_cons (pv 2) pa_nil)))) (pw_or1 (pt_not (pt_val (VG.pe_callG G_l_steps_right hA (hr.mono (by decide)) rfl T.m_l_steps_right T.k_l_steps_right T.b_l_steps_right pass0 (pa_cons (pv 2) pa_nil))))))) (pss_one (ps_ret pe_bl)) pss_nil))))))
    (pss_one (ps_ret pe_bl))), ?_⟩
    refine ⟨_, rfl, a, _, rfl, .inl hS, _, _, rfl, _, _, rfl, _, rfl, ?_⟩
    have b6 : (if (if ((ns.map V.int).length : Int) < 6 then ((ns.map V.int).length : Int) else 6) > 1 then (if ((ns.map V.int).length : Int) < 6 then ((ns.map V.int).length : Int) else 6) else 1) ≤ 6 := by
      split <;> split <;> omega
    have b0 : 0 ≤ (if (if ((ns.map V.int).length : Int) < 6 then ((ns.map V.int).length : Int) else 6) > 1 then (if ((ns.map V.int).length : Int) < 6 then ((ns.map V.int).length : Int) else 6) else 1) := by
      split <;> split <;> omega
    generalize (if (if ((ns.map V.int).length : Int) < 6 then ((ns.map V.int).length : Int) else 6) > 1 then (if ((ns.map V.int).length : Int) < 6 then ((ns.map V.int).length : Int) else 6) else 1) = N at *
    refine ⟨by omega, by omega, ?_⟩
    refine for_range (lo := 0) (n := N.toNat) (fun i σ H' => ∃ v1 v2 v3, σ = [some (.ref a), v1, v2, v3] ∧ Same H H') ⟨_, _, _, rfl, Same.refl H⟩ ?_ ?_
    · rintro i σ H' hi ⟨v1, v2, v3, rfl, s0⟩
      refine ⟨_, rfl, _, rfl, a, ns, _, rfl, s0.seq hS, by omega, by omega, fun H1 p s1 hp0 hp => ?_⟩
      refine ⟨_, rfl, by omega, by omega, ?_⟩
      refine for_range (lo := 0) (n := 3) (fun j σ H2 => ∃ v3, σ = [some (.ref a), some (.int (0 + (i : Nat))), some (.ref p), v3] ∧ Ext p H1 H2) ⟨_, rfl, Ext.refl hp⟩ ?_ ?_
      · rintro j σ H2 hj ⟨v3, rfl, e2⟩
        refine ⟨_, rfl, p, rfl, e2.rng, fun H3 e3 => ⟨_, rfl, iteF ?_⟩⟩
        refine ⟨_, rfl, p, rfl, e3.rng, fun H4 e4 => ⟨_, rfl, iteF ?_⟩⟩
        exact ⟨_, rfl, (e2.trans e3).trans e4⟩
      · rintro σ H2 ⟨v3, rfl, e2⟩
        exact ⟨_, _, _, rfl, s0.trans fun b o q => e2.keep b o (ne_of_none q hp0) (s1 _ _ q)⟩
    · rintro σ H' ⟨v1, v2, v3, rfl, s0⟩
      exact k H'
end
end VK


namespace VK
open PySem PySem.Spec PyProof.Rows L2 VM
theorem all_mk {l : PySem.W.OpenLaw} {w : World} {K : PySem.W.Frag} {h : Heap} {mg : Str → Option Value} {fa : Addr} (X : K.In h) (G : h.Ns mainGlobals mg) (hfa : mg "law" = some (.ref fa))
    {C_DueError : Addr}
    {C_InvalidCurve : Addr}
    {C_InvalidTick : Addr}
    {C_TooSlow : Addr}
    {C_InvalidRecord : Addr}
    {C_InvalidLength : Addr}
    {C_InvalidCount : Addr}
    {C_NotGood : Addr}
    {C_Curve : Addr}
    {C_Police : Addr}
    {f_InvalidLength_init : Addr} {od_InvalidLength_init an_InvalidLength_init : Option Addr} {sl_InvalidLength_init : Array (Option Value)} {oc_InvalidLength_init kV_InvalidLength_init dc_InvalidLength_init pm_InvalidLength_init cd_InvalidLength_init ct_InvalidLength_init : Value}
    {f_InvalidCount_init : Addr} {od_InvalidCount_init an_InvalidCount_init : Option Addr} {sl_InvalidCount_init : Array (Option Value)} {oc_InvalidCount_init kV_InvalidCount_init dc_InvalidCount_init pm_InvalidCount_init cd_InvalidCount_init ct_InvalidCount_init : Value}
    {f_InvalidRecord_init : Addr} {od_InvalidRecord_init an_InvalidRecord_init : Option Addr} {sl_InvalidRecord_init : Array (Option Value)} {oc_InvalidRecord_init kV_InvalidRecord_init dc_InvalidRecord_init pm_InvalidRecord_init cd_InvalidRecord_init ct_InvalidRecord_init : Value}
    {f_NotGood_init : Addr} {od_NotGood_init an_NotGood_init : Option Addr} {sl_NotGood_init : Array (Option Value)} {oc_NotGood_init kV_NotGood_init dc_NotGood_init pm_NotGood_init cd_NotGood_init ct_NotGood_init : Value}
    {f_is_integer : Addr} {od_is_integer an_is_integer : Option Addr} {sl_is_integer : Array (Option Value)} {oc_is_integer kV_is_integer dc_is_integer pm_is_integer cd_is_integer ct_is_integer : Value}
    {f_is_count : Addr} {od_is_count an_is_count : Option Addr} {sl_is_count : Array (Option Value)} {oc_is_count kV_is_count dc_is_count pm_is_count cd_is_count ct_is_count : Value}
    {f_is_count_to : Addr} {od_is_count_to an_is_count_to : Option Addr} {sl_is_count_to : Array (Option Value)} {oc_is_count_to kV_is_count_to dc_is_count_to pm_is_count_to cd_is_count_to ct_is_count_to : Value}
    {f_require_count : Addr} {od_require_count an_require_count : Option Addr} {sl_require_count : Array (Option Value)} {oc_require_count kV_require_count dc_require_count pm_require_count cd_require_count ct_require_count : Value}
    {f_require_count_to : Addr} {od_require_count_to an_require_count_to : Option Addr} {sl_require_count_to : Array (Option Value)} {oc_require_count_to kV_require_count_to dc_require_count_to pm_require_count_to cd_require_count_to ct_require_count_to : Value}
    {f_rounded_up : Addr} {od_rounded_up an_rounded_up : Option Addr} {sl_rounded_up : Array (Option Value)} {oc_rounded_up kV_rounded_up dc_rounded_up pm_rounded_up cd_rounded_up ct_rounded_up : Value}
    {f_value_at : Addr} {od_value_at an_value_at : Option Addr} {sl_value_at : Array (Option Value)} {oc_value_at kV_value_at dc_value_at pm_value_at cd_value_at ct_value_at : Value}
    {f_least_form : Addr} {od_least_form an_least_form : Option Addr} {sl_least_form : Array (Option Value)} {oc_least_form kV_least_form dc_least_form pm_least_form cd_least_form ct_least_form : Value}
    {f_least_period : Addr} {od_least_period an_least_period : Option Addr} {sl_least_period : Array (Option Value)} {oc_least_period kV_least_period dc_least_period pm_least_period cd_least_period ct_least_period : Value}
    {f_C_init : Addr} {od_C_init an_C_init : Option Addr} {sl_C_init : Array (Option Value)} {oc_C_init dc_C_init pm_C_init cd_C_init ct_C_init : Value}
    {D_C_init : Addr}
    {t_C_init_period : Tok}
    {t_C_init_gain : Tok}
    {f_C_first_values : Addr} {od_C_first_values an_C_first_values : Option Addr} {sl_C_first_values : Array (Option Value)} {oc_C_first_values kV_C_first_values dc_C_first_values pm_C_first_values cd_C_first_values ct_C_first_values : Value}
    {f_C_at : Addr} {od_C_at an_C_at : Option Addr} {sl_C_at : Array (Option Value)} {oc_C_at kV_C_at dc_C_at pm_C_at cd_C_at ct_C_at : Value}
    {f_C_find_break : Addr} {od_C_find_break an_C_find_break : Option Addr} {sl_C_find_break : Array (Option Value)} {oc_C_find_break kV_C_find_break dc_C_find_break pm_C_find_break cd_C_find_break ct_C_find_break : Value}
    {f_make_curve : Addr} {od_make_curve an_make_curve : Option Addr} {sl_make_curve : Array (Option Value)} {oc_make_curve kV_make_curve dc_make_curve pm_make_curve cd_make_curve ct_make_curve : Value}
    {f_first_break : Addr} {od_first_break an_first_break : Option Addr} {sl_first_break : Array (Option Value)} {oc_first_break kV_first_break dc_first_break pm_first_break cd_first_break ct_first_break : Value}
    {f_require_good : Addr} {od_require_good an_require_good : Option Addr} {sl_require_good : Array (Option Value)} {oc_require_good kV_require_good dc_require_good pm_require_good cd_require_good ct_require_good : Value}
    {f_find_problem : Addr} {od_find_problem an_find_problem : Option Addr} {sl_find_problem : Array (Option Value)} {oc_find_problem kV_find_problem dc_find_problem pm_find_problem cd_find_problem ct_find_problem : Value}
    {f_most_in : Addr} {od_most_in an_most_in : Option Addr} {sl_most_in : Array (Option Value)} {oc_most_in kV_most_in dc_most_in pm_most_in cd_most_in ct_most_in : Value}
    {f_keeps : Addr} {od_keeps an_keeps : Option Addr} {sl_keeps : Array (Option Value)} {oc_keeps kV_keeps dc_keeps pm_keeps cd_keeps ct_keeps : Value}
    {f_breach : Addr} {od_breach an_breach : Option Addr} {sl_breach : Array (Option Value)} {oc_breach kV_breach dc_breach pm_breach cd_breach ct_breach : Value}
    {f_tightest : Addr} {od_tightest an_tightest : Option Addr} {sl_tightest : Array (Option Value)} {oc_tightest kV_tightest dc_tightest pm_tightest cd_tightest ct_tightest : Value}
    {f_greedy : Addr} {od_greedy an_greedy : Option Addr} {sl_greedy : Array (Option Value)} {oc_greedy kV_greedy dc_greedy pm_greedy cd_greedy ct_greedy : Value}
    {f_shaped : Addr} {od_shaped an_shaped : Option Addr} {sl_shaped : Array (Option Value)} {oc_shaped kV_shaped dc_shaped pm_shaped cd_shaped ct_shaped : Value}
    {f_require_record : Addr} {od_require_record an_require_record : Option Addr} {sl_require_record : Array (Option Value)} {oc_require_record kV_require_record dc_require_record pm_require_record cd_require_record ct_require_record : Value}
    {f_sums_before : Addr} {od_sums_before an_sums_before : Option Addr} {sl_sums_before : Array (Option Value)} {oc_sums_before kV_sums_before dc_sums_before pm_sums_before cd_sums_before ct_sums_before : Value}
    {f_window_sums : Addr} {od_window_sums an_window_sums : Option Addr} {sl_window_sums : Array (Option Value)} {oc_window_sums kV_window_sums dc_window_sums pm_window_sums cd_window_sums ct_window_sums : Value}
    {f_free_after : Addr} {od_free_after an_free_after : Option Addr} {sl_free_after : Array (Option Value)} {oc_free_after kV_free_after dc_free_after pm_free_after cd_free_after ct_free_after : Value}
    {f_P_init : Addr} {od_P_init an_P_init : Option Addr} {sl_P_init : Array (Option Value)} {oc_P_init dc_P_init pm_P_init cd_P_init ct_P_init : Value}
    {D_P_init : Addr}
    {t_P_init_queue : Tok}
    {f_P_held : Addr} {od_P_held an_P_held : Option Addr} {sl_P_held : Array (Option Value)} {oc_P_held kV_P_held dc_P_held pm_P_held cd_P_held ct_P_held : Value}
    {p_P_held : Addr} {r_P_held : List Value}
    {f_P_queue : Addr} {od_P_queue an_P_queue : Option Addr} {sl_P_queue : Array (Option Value)} {oc_P_queue kV_P_queue dc_P_queue pm_P_queue cd_P_queue ct_P_queue : Value}
    {p_P_queue : Addr} {r_P_queue : List Value}
    {f_P_returned : Addr} {od_P_returned an_P_returned : Option Addr} {sl_P_returned : Array (Option Value)} {oc_P_returned kV_P_returned dc_P_returned pm_P_returned cd_P_returned ct_P_returned : Value}
    {p_P_returned : Addr} {r_P_returned : List Value}
    {f_P_step : Addr} {od_P_step an_P_step : Option Addr} {sl_P_step : Array (Option Value)} {oc_P_step dc_P_step pm_P_step cd_P_step ct_P_step : Value}
    {D_P_step : Addr}
    {t_P_step_leak : Tok}
    {f_P_record : Addr} {od_P_record an_P_record : Option Addr} {sl_P_record : Array (Option Value)} {oc_P_record kV_P_record dc_P_record pm_P_record cd_P_record ct_P_record : Value}
    {f_P_binding : Addr} {od_P_binding an_P_binding : Option Addr} {sl_P_binding : Array (Option Value)} {oc_P_binding kV_P_binding dc_P_binding pm_P_binding cd_P_binding ct_P_binding : Value}
    {f_l_rng : Addr} {od_l_rng an_l_rng : Option Addr} {sl_l_rng : Array (Option Value)} {oc_l_rng kV_l_rng dc_l_rng pm_l_rng cd_l_rng ct_l_rng : Value}
    {f_l_draw : Addr} {od_l_draw an_l_draw : Option Addr} {sl_l_draw : Array (Option Value)} {oc_l_draw kV_l_draw dc_l_draw pm_l_draw cd_l_draw ct_l_draw : Value}
    {f_l_choice : Addr} {od_l_choice an_l_choice : Option Addr} {sl_l_choice : Array (Option Value)} {oc_l_choice kV_l_choice dc_l_choice pm_l_choice cd_l_choice ct_l_choice : Value}
    {f_l_odd : Addr} {od_l_odd an_l_odd : Option Addr} {sl_l_odd : Array (Option Value)} {oc_l_odd kV_l_odd dc_l_odd pm_l_odd cd_l_odd ct_l_odd : Value}
    {f_l_record : Addr} {od_l_record an_l_record : Option Addr} {sl_l_record : Array (Option Value)} {oc_l_record kV_l_record dc_l_record pm_l_record cd_l_record ct_l_record : Value}
    {f_l_curve : Addr} {od_l_curve an_l_curve : Option Addr} {sl_l_curve : Array (Option Value)} {oc_l_curve kV_l_curve dc_l_curve pm_l_curve cd_l_curve ct_l_curve : Value}
    {f_l_count : Addr} {od_l_count an_l_count : Option Addr} {sl_l_count : Array (Option Value)} {oc_l_count kV_l_count dc_l_count pm_l_count cd_l_count ct_l_count : Value}
    {f_l_called : Addr} {od_l_called an_l_called : Option Addr} {sl_l_called : Array (Option Value)} {oc_l_called kV_l_called dc_l_called pm_l_called cd_l_called ct_l_called : Value}
    {f_l_fault : Addr} {od_l_fault an_l_fault : Option Addr} {sl_l_fault : Array (Option Value)} {oc_l_fault kV_l_fault dc_l_fault pm_l_fault cd_l_fault ct_l_fault : Value}
    {f_l_due : Addr} {od_l_due an_l_due : Option Addr} {sl_l_due : Array (Option Value)} {oc_l_due kV_l_due dc_l_due pm_l_due cd_l_due ct_l_due : Value}
    {f_l_calls_right : Addr} {od_l_calls_right an_l_calls_right : Option Addr} {sl_l_calls_right : Array (Option Value)} {oc_l_calls_right kV_l_calls_right dc_l_calls_right pm_l_calls_right cd_l_calls_right ct_l_calls_right : Value}
    {f_l_shown : Addr} {od_l_shown an_l_shown : Option Addr} {sl_l_shown : Array (Option Value)} {oc_l_shown kV_l_shown dc_l_shown pm_l_shown cd_l_shown ct_l_shown : Value}
    {f_l_steps_right : Addr} {od_l_steps_right an_l_steps_right : Option Addr} {sl_l_steps_right : Array (Option Value)} {oc_l_steps_right kV_l_steps_right dc_l_steps_right pm_l_steps_right cd_l_steps_right ct_l_steps_right : Value}
    {f_law : Addr} {od_law an_law : Option Addr} {sl_law : Array (Option Value)} {oc_law kV_law dc_law pm_law cd_law ct_law : Value}
    {t_MAX_TICKS : Tok}
    {t_MAX_VALUE : Tok}
    {t_MAX_VALUES : Tok}
    {a_PERIODS : Addr} {uPERIODS0 uPERIODS1 uPERIODS2 uPERIODS3 uPERIODS4 uPERIODS5 : Tok} {od_PERIODS : Option Addr} {n_PERIODS : Nat} {sl_PERIODS : Array (Option Value)}
    (g_DueError : PySem.W.nsIn K mainGlobals "DueError" = some (some (.ref C_DueError)))
    (g_InvalidCurve : PySem.W.nsIn K mainGlobals "InvalidCurve" = some (some (.ref C_InvalidCurve)))
    (g_InvalidTick : PySem.W.nsIn K mainGlobals "InvalidTick" = some (some (.ref C_InvalidTick)))
    (g_TooSlow : PySem.W.nsIn K mainGlobals "TooSlow" = some (some (.ref C_TooSlow)))
    (g_InvalidRecord : PySem.W.nsIn K mainGlobals "InvalidRecord" = some (some (.ref C_InvalidRecord)))
    (xi_InvalidRecord : PySem.W.excInitIn K C_InvalidRecord [.type "ValueError", .type "Exception", .type "BaseException", .type "object"] "ValueError.__new__" = true)
    (xo_InvalidRecord : PySem.W.excOver K C_InvalidRecord [.type "ValueError", .type "Exception", .type "BaseException", .type "object"] = true)
    (hd_InvalidRecord : PySem.W.hasDictIn K C_InvalidRecord = true)
    (sa_InvalidRecord : PySem.W.findIn K (.ref C_InvalidRecord) "__setattr__" = some (some (.builtin "object.__setattr__")))
    (xe_InvalidRecord : PySem.W.subIn K (.ref C_InvalidRecord) (.type "BaseException") = some true)
    (ty_InvalidRecord : PySem.W.typeIn K (.ref C_InvalidRecord) = some (.type "type"))
    (kc_InvalidRecord : PySem.W.keepIn K (.ref C_InvalidRecord) = true)
    (ga_InvalidRecord : PySem.W.findIn K (.ref C_InvalidRecord) "__getattribute__" = some (some (.builtin "BaseException.__getattribute__")))
    (gt_InvalidRecord : PySem.W.findIn K (.ref C_InvalidRecord) "__getattr__" = some none)
    (cc_InvalidRecord : PySem.W.findIn K (.ref C_InvalidRecord) "__class__" = some (some (.builtin "object.__class__")))
    (mr_InvalidRecord : PySem.W.mroIn K C_InvalidRecord (.type "object") = some true)
    (xm_InvalidRecord : PySem.W.subIn K (.ref C_InvalidRecord) (.ref C_InvalidRecord) = some true)
    (n_InvalidRecord_position : PySem.W.findIn K (.ref C_InvalidRecord) "position" = some none)
    (q_gn : PySem.W.specialIn K (.builtin "object.__class__") "__get__" = some (some (.builtin "getset_descriptor.__get__")))
    (q_tk : PySem.W.takesIn K (.builtin "object.__class__") = some true)
    (g_InvalidLength : PySem.W.nsIn K mainGlobals "InvalidLength" = some (some (.ref C_InvalidLength)))
    (xi_InvalidLength : PySem.W.excInitIn K C_InvalidLength [.type "ValueError", .type "Exception", .type "BaseException", .type "object"] "ValueError.__new__" = true)
    (xo_InvalidLength : PySem.W.excOver K C_InvalidLength [.type "ValueError", .type "Exception", .type "BaseException", .type "object"] = true)
    (hd_InvalidLength : PySem.W.hasDictIn K C_InvalidLength = true)
    (sa_InvalidLength : PySem.W.findIn K (.ref C_InvalidLength) "__setattr__" = some (some (.builtin "object.__setattr__")))
    (xe_InvalidLength : PySem.W.subIn K (.ref C_InvalidLength) (.type "BaseException") = some true)
    (ty_InvalidLength : PySem.W.typeIn K (.ref C_InvalidLength) = some (.type "type"))
    (kc_InvalidLength : PySem.W.keepIn K (.ref C_InvalidLength) = true)
    (ga_InvalidLength : PySem.W.findIn K (.ref C_InvalidLength) "__getattribute__" = some (some (.builtin "BaseException.__getattribute__")))
    (gt_InvalidLength : PySem.W.findIn K (.ref C_InvalidLength) "__getattr__" = some none)
    (cc_InvalidLength : PySem.W.findIn K (.ref C_InvalidLength) "__class__" = some (some (.builtin "object.__class__")))
    (mr_InvalidLength : PySem.W.mroIn K C_InvalidLength (.type "object") = some true)
    (xm_InvalidLength : PySem.W.subIn K (.ref C_InvalidLength) (.ref C_InvalidLength) = some true)
    (n_InvalidLength_value : PySem.W.findIn K (.ref C_InvalidLength) "value" = some none)
    (g_InvalidCount : PySem.W.nsIn K mainGlobals "InvalidCount" = some (some (.ref C_InvalidCount)))
    (xi_InvalidCount : PySem.W.excInitIn K C_InvalidCount [.type "ValueError", .type "Exception", .type "BaseException", .type "object"] "ValueError.__new__" = true)
    (xo_InvalidCount : PySem.W.excOver K C_InvalidCount [.type "ValueError", .type "Exception", .type "BaseException", .type "object"] = true)
    (hd_InvalidCount : PySem.W.hasDictIn K C_InvalidCount = true)
    (sa_InvalidCount : PySem.W.findIn K (.ref C_InvalidCount) "__setattr__" = some (some (.builtin "object.__setattr__")))
    (xe_InvalidCount : PySem.W.subIn K (.ref C_InvalidCount) (.type "BaseException") = some true)
    (ty_InvalidCount : PySem.W.typeIn K (.ref C_InvalidCount) = some (.type "type"))
    (kc_InvalidCount : PySem.W.keepIn K (.ref C_InvalidCount) = true)
    (ga_InvalidCount : PySem.W.findIn K (.ref C_InvalidCount) "__getattribute__" = some (some (.builtin "BaseException.__getattribute__")))
    (gt_InvalidCount : PySem.W.findIn K (.ref C_InvalidCount) "__getattr__" = some none)
    (cc_InvalidCount : PySem.W.findIn K (.ref C_InvalidCount) "__class__" = some (some (.builtin "object.__class__")))
    (mr_InvalidCount : PySem.W.mroIn K C_InvalidCount (.type "object") = some true)
    (xm_InvalidCount : PySem.W.subIn K (.ref C_InvalidCount) (.ref C_InvalidCount) = some true)
    (n_InvalidCount_value : PySem.W.findIn K (.ref C_InvalidCount) "value" = some none)
    (g_NotGood : PySem.W.nsIn K mainGlobals "NotGood" = some (some (.ref C_NotGood)))
    (xi_NotGood : PySem.W.excInitIn K C_NotGood [.type "RuntimeError", .type "Exception", .type "BaseException", .type "object"] "RuntimeError.__new__" = true)
    (xo_NotGood : PySem.W.excOver K C_NotGood [.type "RuntimeError", .type "Exception", .type "BaseException", .type "object"] = true)
    (hd_NotGood : PySem.W.hasDictIn K C_NotGood = true)
    (sa_NotGood : PySem.W.findIn K (.ref C_NotGood) "__setattr__" = some (some (.builtin "object.__setattr__")))
    (xe_NotGood : PySem.W.subIn K (.ref C_NotGood) (.type "BaseException") = some true)
    (ty_NotGood : PySem.W.typeIn K (.ref C_NotGood) = some (.type "type"))
    (kc_NotGood : PySem.W.keepIn K (.ref C_NotGood) = true)
    (ga_NotGood : PySem.W.findIn K (.ref C_NotGood) "__getattribute__" = some (some (.builtin "BaseException.__getattribute__")))
    (gt_NotGood : PySem.W.findIn K (.ref C_NotGood) "__getattr__" = some none)
    (cc_NotGood : PySem.W.findIn K (.ref C_NotGood) "__class__" = some (some (.builtin "object.__class__")))
    (mr_NotGood : PySem.W.mroIn K C_NotGood (.type "object") = some true)
    (xm_NotGood : PySem.W.subIn K (.ref C_NotGood) (.ref C_NotGood) = some true)
    (n_NotGood_first : PySem.W.findIn K (.ref C_NotGood) "first" = some none)
    (n_NotGood_second : PySem.W.findIn K (.ref C_NotGood) "second" = some none)
    (xe_DueError : PySem.W.subIn K (.ref C_DueError) (.type "BaseException") = some true)
    (hd_DueError : PySem.W.hasDictIn K C_DueError = true)
    (ty_DueError : PySem.W.typeIn K (.ref C_DueError) = some (.type "type"))
    (xm_InvalidRecord_DueError : PySem.W.subIn K (.ref C_InvalidRecord) (.ref C_DueError) = some true)
    (xm_InvalidLength_DueError : PySem.W.subIn K (.ref C_InvalidLength) (.ref C_DueError) = some true)
    (xm_InvalidCount_DueError : PySem.W.subIn K (.ref C_InvalidCount) (.ref C_DueError) = some true)
    (xm_NotGood_DueError : PySem.W.subIn K (.ref C_NotGood) (.ref C_DueError) = some false)
    (kt_InvalidRecord_InvalidCurve_InvalidTick : PySem.W.kitAny K (.ref C_InvalidRecord) [.ref C_InvalidCurve, .ref C_InvalidTick] = some false)
    (kt_InvalidLength_InvalidCurve_InvalidTick : PySem.W.kitAny K (.ref C_InvalidLength) [.ref C_InvalidCurve, .ref C_InvalidTick] = some false)
    (kt_InvalidCount_InvalidCurve_InvalidTick : PySem.W.kitAny K (.ref C_InvalidCount) [.ref C_InvalidCurve, .ref C_InvalidTick] = some false)
    (kt_InvalidRecord_ValueError : PySem.W.kitOne K (.ref C_InvalidRecord) (.type "ValueError") = some true)
    (kt_InvalidLength_ValueError : PySem.W.kitOne K (.ref C_InvalidLength) (.type "ValueError") = some true)
    (kt_InvalidCount_ValueError : PySem.W.kitOne K (.ref C_InvalidCount) (.type "ValueError") = some true)
    (kt_InvalidRecord_InvalidRecord : PySem.W.kitOne K (.ref C_InvalidRecord) (.ref C_InvalidRecord) = some true)
    (kt_InvalidLength_InvalidRecord : PySem.W.kitOne K (.ref C_InvalidLength) (.ref C_InvalidRecord) = some false)
    (kt_InvalidCount_InvalidRecord : PySem.W.kitOne K (.ref C_InvalidCount) (.ref C_InvalidRecord) = some false)
    (kt_InvalidLength_InvalidLength : PySem.W.kitOne K (.ref C_InvalidLength) (.ref C_InvalidLength) = some true)
    (kt_InvalidCount_InvalidLength : PySem.W.kitOne K (.ref C_InvalidCount) (.ref C_InvalidLength) = some false)
    (kt_InvalidCount_InvalidCount : PySem.W.kitOne K (.ref C_InvalidCount) (.ref C_InvalidCount) = some true)
    (kt_NotGood_TooSlow : PySem.W.kitOne K (.ref C_NotGood) (.ref C_TooSlow) = some false)
    (kt_NotGood_RuntimeError : PySem.W.kitOne K (.ref C_NotGood) (.type "RuntimeError") = some true)
    (g_Curve : PySem.W.nsIn K mainGlobals "Curve" = some (some (.ref C_Curve)))
    (pg_Curve : PySem.W.plainGet K C_Curve Str.empty = true)
    (hd_Curve : PySem.W.hasDictIn K C_Curve = true)
    (po_Curve : PySem.W.plainOver K C_Curve = true)
    (sa_Curve : PySem.W.findIn K (.ref C_Curve) "__setattr__" = some (some (.builtin "object.__setattr__")))
    (mk_Curve : PySem.W.makesIn K C_Curve = true)
    (kc_Curve : PySem.W.keepIn K (.ref C_Curve) = true)
    (n_Curve_values : PySem.W.findIn K (.ref C_Curve) "_values" = some none)
    (n_Curve_period : PySem.W.findIn K (.ref C_Curve) "_period" = some none)
    (n_Curve_gain : PySem.W.findIn K (.ref C_Curve) "_gain" = some none)
    (n_Curve_was_searched : PySem.W.findIn K (.ref C_Curve) "_was_searched" = some none)
    (n_Curve_break : PySem.W.findIn K (.ref C_Curve) "_break" = some none)
    (g_Police : PySem.W.nsIn K mainGlobals "Police" = some (some (.ref C_Police)))
    (pg_Police : PySem.W.plainGet K C_Police Str.empty = true)
    (hd_Police : PySem.W.hasDictIn K C_Police = true)
    (po_Police : PySem.W.plainOver K C_Police = true)
    (sa_Police : PySem.W.findIn K (.ref C_Police) "__setattr__" = some (some (.builtin "object.__setattr__")))
    (mk_Police : PySem.W.makesIn K C_Police = true)
    (kc_Police : PySem.W.keepIn K (.ref C_Police) = true)
    (n_Police_curve : PySem.W.findIn K (.ref C_Police) "_curve" = some none)
    (n_Police_queue : PySem.W.findIn K (.ref C_Police) "_queue" = some none)
    (n_Police_held : PySem.W.findIn K (.ref C_Police) "_held" = some none)
    (n_Police_returned : PySem.W.findIn K (.ref C_Police) "_returned" = some none)
    (n_Police_entered : PySem.W.findIn K (.ref C_Police) "_entered" = some none)
    (n_Police_was_closed : PySem.W.findIn K (.ref C_Police) "_was_closed" = some none)
    (n_Police_limits : PySem.W.findIn K (.ref C_Police) "_limits" = some none)
    (a_InvalidLength_init : PySem.W.findIn K (.ref C_InvalidLength) "__init__" = some (some (.ref f_InvalidLength_init)))
    (i_InvalidLength_init : PySem.W.isFn K (.ref f_InvalidLength_init) = true)
    (l_InvalidLength_init : K.lookup f_InvalidLength_init = some ⟨oc_InvalidLength_init, od_InvalidLength_init, .func (PySem.W.fnOf "__init__" "InvalidLength.__init__" (defArgs s_InvalidLength_init) (defBody s_InvalidLength_init) (defScope s_InvalidLength_init) .none kV_InvalidLength_init dc_InvalidLength_init pm_InvalidLength_init an_InvalidLength_init cd_InvalidLength_init ct_InvalidLength_init), sl_InvalidLength_init⟩)
    (c_InvalidLength_init : PySem.W.codeIn K cd_InvalidLength_init "InvalidLength.__init__" = true)
    (k_InvalidLength_init : PySem.W.keepIn K (.ref f_InvalidLength_init) = true)
    (tI_InvalidLength : PySem.W.typeIn K (.ref f_InvalidLength_init) = some (.type "function"))
    (a_InvalidCount_init : PySem.W.findIn K (.ref C_InvalidCount) "__init__" = some (some (.ref f_InvalidCount_init)))
    (i_InvalidCount_init : PySem.W.isFn K (.ref f_InvalidCount_init) = true)
    (l_InvalidCount_init : K.lookup f_InvalidCount_init = some ⟨oc_InvalidCount_init, od_InvalidCount_init, .func (PySem.W.fnOf "__init__" "InvalidCount.__init__" (defArgs s_InvalidCount_init) (defBody s_InvalidCount_init) (defScope s_InvalidCount_init) .none kV_InvalidCount_init dc_InvalidCount_init pm_InvalidCount_init an_InvalidCount_init cd_InvalidCount_init ct_InvalidCount_init), sl_InvalidCount_init⟩)
    (c_InvalidCount_init : PySem.W.codeIn K cd_InvalidCount_init "InvalidCount.__init__" = true)
    (k_InvalidCount_init : PySem.W.keepIn K (.ref f_InvalidCount_init) = true)
    (tI_InvalidCount : PySem.W.typeIn K (.ref f_InvalidCount_init) = some (.type "function"))
    (a_InvalidRecord_init : PySem.W.findIn K (.ref C_InvalidRecord) "__init__" = some (some (.ref f_InvalidRecord_init)))
    (i_InvalidRecord_init : PySem.W.isFn K (.ref f_InvalidRecord_init) = true)
    (l_InvalidRecord_init : K.lookup f_InvalidRecord_init = some ⟨oc_InvalidRecord_init, od_InvalidRecord_init, .func (PySem.W.fnOf "__init__" "InvalidRecord.__init__" (defArgs s_InvalidRecord_init) (defBody s_InvalidRecord_init) (defScope s_InvalidRecord_init) .none kV_InvalidRecord_init dc_InvalidRecord_init pm_InvalidRecord_init an_InvalidRecord_init cd_InvalidRecord_init ct_InvalidRecord_init), sl_InvalidRecord_init⟩)
    (c_InvalidRecord_init : PySem.W.codeIn K cd_InvalidRecord_init "InvalidRecord.__init__" = true)
    (k_InvalidRecord_init : PySem.W.keepIn K (.ref f_InvalidRecord_init) = true)
    (tI_InvalidRecord : PySem.W.typeIn K (.ref f_InvalidRecord_init) = some (.type "function"))
    (a_NotGood_init : PySem.W.findIn K (.ref C_NotGood) "__init__" = some (some (.ref f_NotGood_init)))
    (i_NotGood_init : PySem.W.isFn K (.ref f_NotGood_init) = true)
    (l_NotGood_init : K.lookup f_NotGood_init = some ⟨oc_NotGood_init, od_NotGood_init, .func (PySem.W.fnOf "__init__" "NotGood.__init__" (defArgs s_NotGood_init) (defBody s_NotGood_init) (defScope s_NotGood_init) .none kV_NotGood_init dc_NotGood_init pm_NotGood_init an_NotGood_init cd_NotGood_init ct_NotGood_init), sl_NotGood_init⟩)
    (c_NotGood_init : PySem.W.codeIn K cd_NotGood_init "NotGood.__init__" = true)
    (k_NotGood_init : PySem.W.keepIn K (.ref f_NotGood_init) = true)
    (tI_NotGood : PySem.W.typeIn K (.ref f_NotGood_init) = some (.type "function"))
    (a_is_integer : PySem.W.nsIn K mainGlobals "is_integer" = some (some (.ref f_is_integer)))
    (l_is_integer : K.lookup f_is_integer = some ⟨oc_is_integer, od_is_integer, .func (PySem.W.fnOf "is_integer" "is_integer" (defArgs s_is_integer) (defBody s_is_integer) (defScope s_is_integer) .none kV_is_integer dc_is_integer pm_is_integer an_is_integer cd_is_integer ct_is_integer), sl_is_integer⟩)
    (c_is_integer : PySem.W.codeIn K cd_is_integer "is_integer" = true)
    (k_is_integer : PySem.W.keepIn K (.ref f_is_integer) = true)
    (a_is_count : PySem.W.nsIn K mainGlobals "is_count" = some (some (.ref f_is_count)))
    (l_is_count : K.lookup f_is_count = some ⟨oc_is_count, od_is_count, .func (PySem.W.fnOf "is_count" "is_count" (defArgs s_is_count) (defBody s_is_count) (defScope s_is_count) .none kV_is_count dc_is_count pm_is_count an_is_count cd_is_count ct_is_count), sl_is_count⟩)
    (c_is_count : PySem.W.codeIn K cd_is_count "is_count" = true)
    (k_is_count : PySem.W.keepIn K (.ref f_is_count) = true)
    (a_is_count_to : PySem.W.nsIn K mainGlobals "is_count_to" = some (some (.ref f_is_count_to)))
    (l_is_count_to : K.lookup f_is_count_to = some ⟨oc_is_count_to, od_is_count_to, .func (PySem.W.fnOf "is_count_to" "is_count_to" (defArgs s_is_count_to) (defBody s_is_count_to) (defScope s_is_count_to) .none kV_is_count_to dc_is_count_to pm_is_count_to an_is_count_to cd_is_count_to ct_is_count_to), sl_is_count_to⟩)
    (c_is_count_to : PySem.W.codeIn K cd_is_count_to "is_count_to" = true)
    (k_is_count_to : PySem.W.keepIn K (.ref f_is_count_to) = true)
    (a_require_count : PySem.W.nsIn K mainGlobals "require_count" = some (some (.ref f_require_count)))
    (l_require_count : K.lookup f_require_count = some ⟨oc_require_count, od_require_count, .func (PySem.W.fnOf "require_count" "require_count" (defArgs s_require_count) (defBody s_require_count) (defScope s_require_count) .none kV_require_count dc_require_count pm_require_count an_require_count cd_require_count ct_require_count), sl_require_count⟩)
    (c_require_count : PySem.W.codeIn K cd_require_count "require_count" = true)
    (k_require_count : PySem.W.keepIn K (.ref f_require_count) = true)
    (a_require_count_to : PySem.W.nsIn K mainGlobals "require_count_to" = some (some (.ref f_require_count_to)))
    (l_require_count_to : K.lookup f_require_count_to = some ⟨oc_require_count_to, od_require_count_to, .func (PySem.W.fnOf "require_count_to" "require_count_to" (defArgs s_require_count_to) (defBody s_require_count_to) (defScope s_require_count_to) .none kV_require_count_to dc_require_count_to pm_require_count_to an_require_count_to cd_require_count_to ct_require_count_to), sl_require_count_to⟩)
    (c_require_count_to : PySem.W.codeIn K cd_require_count_to "require_count_to" = true)
    (k_require_count_to : PySem.W.keepIn K (.ref f_require_count_to) = true)
    (a_rounded_up : PySem.W.nsIn K mainGlobals "rounded_up" = some (some (.ref f_rounded_up)))
    (l_rounded_up : K.lookup f_rounded_up = some ⟨oc_rounded_up, od_rounded_up, .func (PySem.W.fnOf "rounded_up" "rounded_up" (defArgs s_rounded_up) (defBody s_rounded_up) (defScope s_rounded_up) .none kV_rounded_up dc_rounded_up pm_rounded_up an_rounded_up cd_rounded_up ct_rounded_up), sl_rounded_up⟩)
    (c_rounded_up : PySem.W.codeIn K cd_rounded_up "rounded_up" = true)
    (k_rounded_up : PySem.W.keepIn K (.ref f_rounded_up) = true)
    (a_value_at : PySem.W.nsIn K mainGlobals "value_at" = some (some (.ref f_value_at)))
    (l_value_at : K.lookup f_value_at = some ⟨oc_value_at, od_value_at, .func (PySem.W.fnOf "value_at" "value_at" (defArgs s_value_at) (defBody s_value_at) (defScope s_value_at) .none kV_value_at dc_value_at pm_value_at an_value_at cd_value_at ct_value_at), sl_value_at⟩)
    (c_value_at : PySem.W.codeIn K cd_value_at "value_at" = true)
    (k_value_at : PySem.W.keepIn K (.ref f_value_at) = true)
    (a_least_form : PySem.W.nsIn K mainGlobals "least_form" = some (some (.ref f_least_form)))
    (l_least_form : K.lookup f_least_form = some ⟨oc_least_form, od_least_form, .func (PySem.W.fnOf "least_form" "least_form" (defArgs s_least_form) (defBody s_least_form) (defScope s_least_form) .none kV_least_form dc_least_form pm_least_form an_least_form cd_least_form ct_least_form), sl_least_form⟩)
    (c_least_form : PySem.W.codeIn K cd_least_form "least_form" = true)
    (k_least_form : PySem.W.keepIn K (.ref f_least_form) = true)
    (a_least_period : PySem.W.nsIn K mainGlobals "least_period" = some (some (.ref f_least_period)))
    (l_least_period : K.lookup f_least_period = some ⟨oc_least_period, od_least_period, .func (PySem.W.fnOf "least_period" "least_period" (defArgs s_least_period) (defBody s_least_period) (defScope s_least_period) .none kV_least_period dc_least_period pm_least_period an_least_period cd_least_period ct_least_period), sl_least_period⟩)
    (c_least_period : PySem.W.codeIn K cd_least_period "least_period" = true)
    (k_least_period : PySem.W.keepIn K (.ref f_least_period) = true)
    (a_C_init : PySem.W.findIn K (.ref C_Curve) "__init__" = some (some (.ref f_C_init)))
    (i_C_init : PySem.W.isFn K (.ref f_C_init) = true)
    (l_C_init : K.lookup f_C_init = some ⟨oc_C_init, od_C_init, .func (PySem.W.fnOf "__init__" "Curve.__init__" (defArgs s_C_init) (defBody s_C_init) (defScope s_C_init) .none (.ref D_C_init) dc_C_init pm_C_init an_C_init cd_C_init ct_C_init), sl_C_init⟩)
    (c_C_init : PySem.W.codeIn K cd_C_init "Curve.__init__" = true)
    (k_C_init : PySem.W.keepIn K (.ref f_C_init) = true)
    (d_C_init_period : PySem.W.nsIn K D_C_init "period" = some (some (.int 1 t_C_init_period)))
    (d_C_init_gain : PySem.W.nsIn K D_C_init "gain" = some (some (.int 0 t_C_init_gain)))
    (a_C_first_values : PySem.W.findIn K (.ref C_Curve) "first_values" = some (some (.ref f_C_first_values)))
    (i_C_first_values : PySem.W.isFn K (.ref f_C_first_values) = true)
    (l_C_first_values : K.lookup f_C_first_values = some ⟨oc_C_first_values, od_C_first_values, .func (PySem.W.fnOf "first_values" "Curve.first_values" (defArgs s_C_first_values) (defBody s_C_first_values) (defScope s_C_first_values) .none kV_C_first_values dc_C_first_values pm_C_first_values an_C_first_values cd_C_first_values ct_C_first_values), sl_C_first_values⟩)
    (c_C_first_values : PySem.W.codeIn K cd_C_first_values "Curve.first_values" = true)
    (k_C_first_values : PySem.W.keepIn K (.ref f_C_first_values) = true)
    (a_C_at : PySem.W.findIn K (.ref C_Curve) "at" = some (some (.ref f_C_at)))
    (i_C_at : PySem.W.isFn K (.ref f_C_at) = true)
    (l_C_at : K.lookup f_C_at = some ⟨oc_C_at, od_C_at, .func (PySem.W.fnOf "at" "Curve.at" (defArgs s_C_at) (defBody s_C_at) (defScope s_C_at) .none kV_C_at dc_C_at pm_C_at an_C_at cd_C_at ct_C_at), sl_C_at⟩)
    (c_C_at : PySem.W.codeIn K cd_C_at "Curve.at" = true)
    (k_C_at : PySem.W.keepIn K (.ref f_C_at) = true)
    (a_C_find_break : PySem.W.findIn K (.ref C_Curve) "find_break" = some (some (.ref f_C_find_break)))
    (i_C_find_break : PySem.W.isFn K (.ref f_C_find_break) = true)
    (l_C_find_break : K.lookup f_C_find_break = some ⟨oc_C_find_break, od_C_find_break, .func (PySem.W.fnOf "find_break" "Curve.find_break" (defArgs s_C_find_break) (defBody s_C_find_break) (defScope s_C_find_break) .none kV_C_find_break dc_C_find_break pm_C_find_break an_C_find_break cd_C_find_break ct_C_find_break), sl_C_find_break⟩)
    (c_C_find_break : PySem.W.codeIn K cd_C_find_break "Curve.find_break" = true)
    (k_C_find_break : PySem.W.keepIn K (.ref f_C_find_break) = true)
    (a_make_curve : PySem.W.nsIn K mainGlobals "make_curve" = some (some (.ref f_make_curve)))
    (l_make_curve : K.lookup f_make_curve = some ⟨oc_make_curve, od_make_curve, .func (PySem.W.fnOf "make_curve" "make_curve" (defArgs s_make_curve) (defBody s_make_curve) (defScope s_make_curve) .none kV_make_curve dc_make_curve pm_make_curve an_make_curve cd_make_curve ct_make_curve), sl_make_curve⟩)
    (c_make_curve : PySem.W.codeIn K cd_make_curve "make_curve" = true)
    (k_make_curve : PySem.W.keepIn K (.ref f_make_curve) = true)
    (a_first_break : PySem.W.nsIn K mainGlobals "first_break" = some (some (.ref f_first_break)))
    (l_first_break : K.lookup f_first_break = some ⟨oc_first_break, od_first_break, .func (PySem.W.fnOf "first_break" "first_break" (defArgs s_first_break) (defBody s_first_break) (defScope s_first_break) .none kV_first_break dc_first_break pm_first_break an_first_break cd_first_break ct_first_break), sl_first_break⟩)
    (c_first_break : PySem.W.codeIn K cd_first_break "first_break" = true)
    (k_first_break : PySem.W.keepIn K (.ref f_first_break) = true)
    (a_require_good : PySem.W.nsIn K mainGlobals "require_good" = some (some (.ref f_require_good)))
    (l_require_good : K.lookup f_require_good = some ⟨oc_require_good, od_require_good, .func (PySem.W.fnOf "require_good" "require_good" (defArgs s_require_good) (defBody s_require_good) (defScope s_require_good) .none kV_require_good dc_require_good pm_require_good an_require_good cd_require_good ct_require_good), sl_require_good⟩)
    (c_require_good : PySem.W.codeIn K cd_require_good "require_good" = true)
    (k_require_good : PySem.W.keepIn K (.ref f_require_good) = true)
    (a_find_problem : PySem.W.nsIn K mainGlobals "find_problem" = some (some (.ref f_find_problem)))
    (l_find_problem : K.lookup f_find_problem = some ⟨oc_find_problem, od_find_problem, .func (PySem.W.fnOf "find_problem" "find_problem" (defArgs s_find_problem) (defBody s_find_problem) (defScope s_find_problem) .none kV_find_problem dc_find_problem pm_find_problem an_find_problem cd_find_problem ct_find_problem), sl_find_problem⟩)
    (c_find_problem : PySem.W.codeIn K cd_find_problem "find_problem" = true)
    (k_find_problem : PySem.W.keepIn K (.ref f_find_problem) = true)
    (a_most_in : PySem.W.nsIn K mainGlobals "most_in" = some (some (.ref f_most_in)))
    (l_most_in : K.lookup f_most_in = some ⟨oc_most_in, od_most_in, .func (PySem.W.fnOf "most_in" "most_in" (defArgs s_most_in) (defBody s_most_in) (defScope s_most_in) .none kV_most_in dc_most_in pm_most_in an_most_in cd_most_in ct_most_in), sl_most_in⟩)
    (c_most_in : PySem.W.codeIn K cd_most_in "most_in" = true)
    (k_most_in : PySem.W.keepIn K (.ref f_most_in) = true)
    (a_keeps : PySem.W.nsIn K mainGlobals "keeps" = some (some (.ref f_keeps)))
    (l_keeps : K.lookup f_keeps = some ⟨oc_keeps, od_keeps, .func (PySem.W.fnOf "keeps" "keeps" (defArgs s_keeps) (defBody s_keeps) (defScope s_keeps) .none kV_keeps dc_keeps pm_keeps an_keeps cd_keeps ct_keeps), sl_keeps⟩)
    (c_keeps : PySem.W.codeIn K cd_keeps "keeps" = true)
    (k_keeps : PySem.W.keepIn K (.ref f_keeps) = true)
    (a_breach : PySem.W.nsIn K mainGlobals "breach" = some (some (.ref f_breach)))
    (l_breach : K.lookup f_breach = some ⟨oc_breach, od_breach, .func (PySem.W.fnOf "breach" "breach" (defArgs s_breach) (defBody s_breach) (defScope s_breach) .none kV_breach dc_breach pm_breach an_breach cd_breach ct_breach), sl_breach⟩)
    (c_breach : PySem.W.codeIn K cd_breach "breach" = true)
    (k_breach : PySem.W.keepIn K (.ref f_breach) = true)
    (a_tightest : PySem.W.nsIn K mainGlobals "tightest" = some (some (.ref f_tightest)))
    (l_tightest : K.lookup f_tightest = some ⟨oc_tightest, od_tightest, .func (PySem.W.fnOf "tightest" "tightest" (defArgs s_tightest) (defBody s_tightest) (defScope s_tightest) .none kV_tightest dc_tightest pm_tightest an_tightest cd_tightest ct_tightest), sl_tightest⟩)
    (c_tightest : PySem.W.codeIn K cd_tightest "tightest" = true)
    (k_tightest : PySem.W.keepIn K (.ref f_tightest) = true)
    (a_greedy : PySem.W.nsIn K mainGlobals "greedy" = some (some (.ref f_greedy)))
    (l_greedy : K.lookup f_greedy = some ⟨oc_greedy, od_greedy, .func (PySem.W.fnOf "greedy" "greedy" (defArgs s_greedy) (defBody s_greedy) (defScope s_greedy) .none kV_greedy dc_greedy pm_greedy an_greedy cd_greedy ct_greedy), sl_greedy⟩)
    (c_greedy : PySem.W.codeIn K cd_greedy "greedy" = true)
    (k_greedy : PySem.W.keepIn K (.ref f_greedy) = true)
    (a_shaped : PySem.W.nsIn K mainGlobals "shaped" = some (some (.ref f_shaped)))
    (l_shaped : K.lookup f_shaped = some ⟨oc_shaped, od_shaped, .func (PySem.W.fnOf "shaped" "shaped" (defArgs s_shaped) (defBody s_shaped) (defScope s_shaped) .none kV_shaped dc_shaped pm_shaped an_shaped cd_shaped ct_shaped), sl_shaped⟩)
    (c_shaped : PySem.W.codeIn K cd_shaped "shaped" = true)
    (k_shaped : PySem.W.keepIn K (.ref f_shaped) = true)
    (a_require_record : PySem.W.nsIn K mainGlobals "require_record" = some (some (.ref f_require_record)))
    (l_require_record : K.lookup f_require_record = some ⟨oc_require_record, od_require_record, .func (PySem.W.fnOf "require_record" "require_record" (defArgs s_require_record) (defBody s_require_record) (defScope s_require_record) .none kV_require_record dc_require_record pm_require_record an_require_record cd_require_record ct_require_record), sl_require_record⟩)
    (c_require_record : PySem.W.codeIn K cd_require_record "require_record" = true)
    (k_require_record : PySem.W.keepIn K (.ref f_require_record) = true)
    (a_sums_before : PySem.W.nsIn K mainGlobals "sums_before" = some (some (.ref f_sums_before)))
    (l_sums_before : K.lookup f_sums_before = some ⟨oc_sums_before, od_sums_before, .func (PySem.W.fnOf "sums_before" "sums_before" (defArgs s_sums_before) (defBody s_sums_before) (defScope s_sums_before) .none kV_sums_before dc_sums_before pm_sums_before an_sums_before cd_sums_before ct_sums_before), sl_sums_before⟩)
    (c_sums_before : PySem.W.codeIn K cd_sums_before "sums_before" = true)
    (k_sums_before : PySem.W.keepIn K (.ref f_sums_before) = true)
    (a_window_sums : PySem.W.nsIn K mainGlobals "window_sums" = some (some (.ref f_window_sums)))
    (l_window_sums : K.lookup f_window_sums = some ⟨oc_window_sums, od_window_sums, .func (PySem.W.fnOf "window_sums" "window_sums" (defArgs s_window_sums) (defBody s_window_sums) (defScope s_window_sums) .none kV_window_sums dc_window_sums pm_window_sums an_window_sums cd_window_sums ct_window_sums), sl_window_sums⟩)
    (c_window_sums : PySem.W.codeIn K cd_window_sums "window_sums" = true)
    (k_window_sums : PySem.W.keepIn K (.ref f_window_sums) = true)
    (a_free_after : PySem.W.nsIn K mainGlobals "free_after" = some (some (.ref f_free_after)))
    (l_free_after : K.lookup f_free_after = some ⟨oc_free_after, od_free_after, .func (PySem.W.fnOf "free_after" "free_after" (defArgs s_free_after) (defBody s_free_after) (defScope s_free_after) .none kV_free_after dc_free_after pm_free_after an_free_after cd_free_after ct_free_after), sl_free_after⟩)
    (c_free_after : PySem.W.codeIn K cd_free_after "free_after" = true)
    (k_free_after : PySem.W.keepIn K (.ref f_free_after) = true)
    (a_P_init : PySem.W.findIn K (.ref C_Police) "__init__" = some (some (.ref f_P_init)))
    (i_P_init : PySem.W.isFn K (.ref f_P_init) = true)
    (l_P_init : K.lookup f_P_init = some ⟨oc_P_init, od_P_init, .func (PySem.W.fnOf "__init__" "Police.__init__" (defArgs s_P_init) (defBody s_P_init) (defScope s_P_init) .none (.ref D_P_init) dc_P_init pm_P_init an_P_init cd_P_init ct_P_init), sl_P_init⟩)
    (c_P_init : PySem.W.codeIn K cd_P_init "Police.__init__" = true)
    (k_P_init : PySem.W.keepIn K (.ref f_P_init) = true)
    (d_P_init_queue : PySem.W.nsIn K D_P_init "queue" = some (some (.int 60 t_P_init_queue)))
    (a_P_held : PySem.W.findIn K (.ref C_Police) "held" = some (some (.ref p_P_held)))
    (pg_P_held : PySem.W.specialIn K (.ref p_P_held) "__get__" = some (some (.builtin "property.__get__")))
    (pt_P_held : PySem.W.takesIn K (.ref p_P_held) = some true)
    (pr_P_held : PySem.W.recIn K p_P_held "property" = some (.ref f_P_held :: r_P_held))
    (l_P_held : K.lookup f_P_held = some ⟨oc_P_held, od_P_held, .func (PySem.W.fnOf "held" "Police.held" (defArgs s_P_held) (defBody s_P_held) (defScope s_P_held) .none kV_P_held dc_P_held pm_P_held an_P_held cd_P_held ct_P_held), sl_P_held⟩)
    (c_P_held : PySem.W.codeIn K cd_P_held "Police.held" = true)
    (k_P_held : PySem.W.keepIn K (.ref f_P_held) = true)
    (a_P_queue : PySem.W.findIn K (.ref C_Police) "queue" = some (some (.ref p_P_queue)))
    (pg_P_queue : PySem.W.specialIn K (.ref p_P_queue) "__get__" = some (some (.builtin "property.__get__")))
    (pt_P_queue : PySem.W.takesIn K (.ref p_P_queue) = some true)
    (pr_P_queue : PySem.W.recIn K p_P_queue "property" = some (.ref f_P_queue :: r_P_queue))
    (l_P_queue : K.lookup f_P_queue = some ⟨oc_P_queue, od_P_queue, .func (PySem.W.fnOf "queue" "Police.queue" (defArgs s_P_queue) (defBody s_P_queue) (defScope s_P_queue) .none kV_P_queue dc_P_queue pm_P_queue an_P_queue cd_P_queue ct_P_queue), sl_P_queue⟩)
    (c_P_queue : PySem.W.codeIn K cd_P_queue "Police.queue" = true)
    (k_P_queue : PySem.W.keepIn K (.ref f_P_queue) = true)
    (a_P_returned : PySem.W.findIn K (.ref C_Police) "returned" = some (some (.ref p_P_returned)))
    (pg_P_returned : PySem.W.specialIn K (.ref p_P_returned) "__get__" = some (some (.builtin "property.__get__")))
    (pt_P_returned : PySem.W.takesIn K (.ref p_P_returned) = some true)
    (pr_P_returned : PySem.W.recIn K p_P_returned "property" = some (.ref f_P_returned :: r_P_returned))
    (l_P_returned : K.lookup f_P_returned = some ⟨oc_P_returned, od_P_returned, .func (PySem.W.fnOf "returned" "Police.returned" (defArgs s_P_returned) (defBody s_P_returned) (defScope s_P_returned) .none kV_P_returned dc_P_returned pm_P_returned an_P_returned cd_P_returned ct_P_returned), sl_P_returned⟩)
    (c_P_returned : PySem.W.codeIn K cd_P_returned "Police.returned" = true)
    (k_P_returned : PySem.W.keepIn K (.ref f_P_returned) = true)
    (a_P_step : PySem.W.findIn K (.ref C_Police) "step" = some (some (.ref f_P_step)))
    (i_P_step : PySem.W.isFn K (.ref f_P_step) = true)
    (l_P_step : K.lookup f_P_step = some ⟨oc_P_step, od_P_step, .func (PySem.W.fnOf "step" "Police.step" (defArgs s_P_step) (defBody s_P_step) (defScope s_P_step) .none (.ref D_P_step) dc_P_step pm_P_step an_P_step cd_P_step ct_P_step), sl_P_step⟩)
    (c_P_step : PySem.W.codeIn K cd_P_step "Police.step" = true)
    (k_P_step : PySem.W.keepIn K (.ref f_P_step) = true)
    (d_P_step_leak : PySem.W.nsIn K D_P_step "leak" = some (some (.int 0 t_P_step_leak)))
    (d_P_step_closed : PySem.W.nsIn K D_P_step "closed" = some (some (.bool false)))
    (a_P_record : PySem.W.findIn K (.ref C_Police) "record" = some (some (.ref f_P_record)))
    (i_P_record : PySem.W.isFn K (.ref f_P_record) = true)
    (l_P_record : K.lookup f_P_record = some ⟨oc_P_record, od_P_record, .func (PySem.W.fnOf "record" "Police.record" (defArgs s_P_record) (defBody s_P_record) (defScope s_P_record) .none kV_P_record dc_P_record pm_P_record an_P_record cd_P_record ct_P_record), sl_P_record⟩)
    (c_P_record : PySem.W.codeIn K cd_P_record "Police.record" = true)
    (k_P_record : PySem.W.keepIn K (.ref f_P_record) = true)
    (a_P_binding : PySem.W.findIn K (.ref C_Police) "binding" = some (some (.ref f_P_binding)))
    (i_P_binding : PySem.W.isFn K (.ref f_P_binding) = true)
    (l_P_binding : K.lookup f_P_binding = some ⟨oc_P_binding, od_P_binding, .func (PySem.W.fnOf "binding" "Police.binding" (defArgs s_P_binding) (defBody s_P_binding) (defScope s_P_binding) .none kV_P_binding dc_P_binding pm_P_binding an_P_binding cd_P_binding ct_P_binding), sl_P_binding⟩)
    (c_P_binding : PySem.W.codeIn K cd_P_binding "Police.binding" = true)
    (k_P_binding : PySem.W.keepIn K (.ref f_P_binding) = true)
    (a_l_rng : PySem.W.nsIn K mainGlobals "_law_rng" = some (some (.ref f_l_rng)))
    (l_l_rng : K.lookup f_l_rng = some ⟨oc_l_rng, od_l_rng, .func (PySem.W.fnOf "_law_rng" "_law_rng" (defArgs s_l_rng) (defBody s_l_rng) (defScope s_l_rng) .none kV_l_rng dc_l_rng pm_l_rng an_l_rng cd_l_rng ct_l_rng), sl_l_rng⟩)
    (c_l_rng : PySem.W.codeIn K cd_l_rng "_law_rng" = true)
    (k_l_rng : PySem.W.keepIn K (.ref f_l_rng) = true)
    (a_l_draw : PySem.W.nsIn K mainGlobals "_law_draw" = some (some (.ref f_l_draw)))
    (l_l_draw : K.lookup f_l_draw = some ⟨oc_l_draw, od_l_draw, .func (PySem.W.fnOf "_law_draw" "_law_draw" (defArgs s_l_draw) (defBody s_l_draw) (defScope s_l_draw) .none kV_l_draw dc_l_draw pm_l_draw an_l_draw cd_l_draw ct_l_draw), sl_l_draw⟩)
    (c_l_draw : PySem.W.codeIn K cd_l_draw "_law_draw" = true)
    (k_l_draw : PySem.W.keepIn K (.ref f_l_draw) = true)
    (a_l_choice : PySem.W.nsIn K mainGlobals "_law_choice" = some (some (.ref f_l_choice)))
    (l_l_choice : K.lookup f_l_choice = some ⟨oc_l_choice, od_l_choice, .func (PySem.W.fnOf "_law_choice" "_law_choice" (defArgs s_l_choice) (defBody s_l_choice) (defScope s_l_choice) .none kV_l_choice dc_l_choice pm_l_choice an_l_choice cd_l_choice ct_l_choice), sl_l_choice⟩)
    (c_l_choice : PySem.W.codeIn K cd_l_choice "_law_choice" = true)
    (k_l_choice : PySem.W.keepIn K (.ref f_l_choice) = true)
    (a_l_odd : PySem.W.nsIn K mainGlobals "_law_odd" = some (some (.ref f_l_odd)))
    (l_l_odd : K.lookup f_l_odd = some ⟨oc_l_odd, od_l_odd, .func (PySem.W.fnOf "_law_odd" "_law_odd" (defArgs s_l_odd) (defBody s_l_odd) (defScope s_l_odd) .none kV_l_odd dc_l_odd pm_l_odd an_l_odd cd_l_odd ct_l_odd), sl_l_odd⟩)
    (c_l_odd : PySem.W.codeIn K cd_l_odd "_law_odd" = true)
    (k_l_odd : PySem.W.keepIn K (.ref f_l_odd) = true)
    (a_l_record : PySem.W.nsIn K mainGlobals "_law_record" = some (some (.ref f_l_record)))
    (l_l_record : K.lookup f_l_record = some ⟨oc_l_record, od_l_record, .func (PySem.W.fnOf "_law_record" "_law_record" (defArgs s_l_record) (defBody s_l_record) (defScope s_l_record) .none kV_l_record dc_l_record pm_l_record an_l_record cd_l_record ct_l_record), sl_l_record⟩)
    (c_l_record : PySem.W.codeIn K cd_l_record "_law_record" = true)
    (k_l_record : PySem.W.keepIn K (.ref f_l_record) = true)
    (a_l_curve : PySem.W.nsIn K mainGlobals "_law_curve" = some (some (.ref f_l_curve)))
    (l_l_curve : K.lookup f_l_curve = some ⟨oc_l_curve, od_l_curve, .func (PySem.W.fnOf "_law_curve" "_law_curve" (defArgs s_l_curve) (defBody s_l_curve) (defScope s_l_curve) .none kV_l_curve dc_l_curve pm_l_curve an_l_curve cd_l_curve ct_l_curve), sl_l_curve⟩)
    (c_l_curve : PySem.W.codeIn K cd_l_curve "_law_curve" = true)
    (k_l_curve : PySem.W.keepIn K (.ref f_l_curve) = true)
    (a_l_count : PySem.W.nsIn K mainGlobals "_law_count" = some (some (.ref f_l_count)))
    (l_l_count : K.lookup f_l_count = some ⟨oc_l_count, od_l_count, .func (PySem.W.fnOf "_law_count" "_law_count" (defArgs s_l_count) (defBody s_l_count) (defScope s_l_count) .none kV_l_count dc_l_count pm_l_count an_l_count cd_l_count ct_l_count), sl_l_count⟩)
    (c_l_count : PySem.W.codeIn K cd_l_count "_law_count" = true)
    (k_l_count : PySem.W.keepIn K (.ref f_l_count) = true)
    (a_l_called : PySem.W.nsIn K mainGlobals "_law_called" = some (some (.ref f_l_called)))
    (l_l_called : K.lookup f_l_called = some ⟨oc_l_called, od_l_called, .func (PySem.W.fnOf "_law_called" "_law_called" (defArgs s_l_called) (defBody s_l_called) (defScope s_l_called) .none kV_l_called dc_l_called pm_l_called an_l_called cd_l_called ct_l_called), sl_l_called⟩)
    (c_l_called : PySem.W.codeIn K cd_l_called "_law_called" = true)
    (k_l_called : PySem.W.keepIn K (.ref f_l_called) = true)
    (a_l_fault : PySem.W.nsIn K mainGlobals "_law_fault" = some (some (.ref f_l_fault)))
    (l_l_fault : K.lookup f_l_fault = some ⟨oc_l_fault, od_l_fault, .func (PySem.W.fnOf "_law_fault" "_law_fault" (defArgs s_l_fault) (defBody s_l_fault) (defScope s_l_fault) .none kV_l_fault dc_l_fault pm_l_fault an_l_fault cd_l_fault ct_l_fault), sl_l_fault⟩)
    (c_l_fault : PySem.W.codeIn K cd_l_fault "_law_fault" = true)
    (k_l_fault : PySem.W.keepIn K (.ref f_l_fault) = true)
    (a_l_due : PySem.W.nsIn K mainGlobals "_law_due" = some (some (.ref f_l_due)))
    (l_l_due : K.lookup f_l_due = some ⟨oc_l_due, od_l_due, .func (PySem.W.fnOf "_law_due" "_law_due" (defArgs s_l_due) (defBody s_l_due) (defScope s_l_due) .none kV_l_due dc_l_due pm_l_due an_l_due cd_l_due ct_l_due), sl_l_due⟩)
    (c_l_due : PySem.W.codeIn K cd_l_due "_law_due" = true)
    (k_l_due : PySem.W.keepIn K (.ref f_l_due) = true)
    (a_l_calls_right : PySem.W.nsIn K mainGlobals "_law_calls_right" = some (some (.ref f_l_calls_right)))
    (l_l_calls_right : K.lookup f_l_calls_right = some ⟨oc_l_calls_right, od_l_calls_right, .func (PySem.W.fnOf "_law_calls_right" "_law_calls_right" (defArgs s_l_calls_right) (defBody s_l_calls_right) (defScope s_l_calls_right) .none kV_l_calls_right dc_l_calls_right pm_l_calls_right an_l_calls_right cd_l_calls_right ct_l_calls_right), sl_l_calls_right⟩)
    (c_l_calls_right : PySem.W.codeIn K cd_l_calls_right "_law_calls_right" = true)
    (k_l_calls_right : PySem.W.keepIn K (.ref f_l_calls_right) = true)
    (a_l_shown : PySem.W.nsIn K mainGlobals "_law_shown" = some (some (.ref f_l_shown)))
    (l_l_shown : K.lookup f_l_shown = some ⟨oc_l_shown, od_l_shown, .func (PySem.W.fnOf "_law_shown" "_law_shown" (defArgs s_l_shown) (defBody s_l_shown) (defScope s_l_shown) .none kV_l_shown dc_l_shown pm_l_shown an_l_shown cd_l_shown ct_l_shown), sl_l_shown⟩)
    (c_l_shown : PySem.W.codeIn K cd_l_shown "_law_shown" = true)
    (k_l_shown : PySem.W.keepIn K (.ref f_l_shown) = true)
    (a_l_steps_right : PySem.W.nsIn K mainGlobals "_law_steps_right" = some (some (.ref f_l_steps_right)))
    (l_l_steps_right : K.lookup f_l_steps_right = some ⟨oc_l_steps_right, od_l_steps_right, .func (PySem.W.fnOf "_law_steps_right" "_law_steps_right" (defArgs s_l_steps_right) (defBody s_l_steps_right) (defScope s_l_steps_right) .none kV_l_steps_right dc_l_steps_right pm_l_steps_right an_l_steps_right cd_l_steps_right ct_l_steps_right), sl_l_steps_right⟩)
    (c_l_steps_right : PySem.W.codeIn K cd_l_steps_right "_law_steps_right" = true)
    (k_l_steps_right : PySem.W.keepIn K (.ref f_l_steps_right) = true)
    (a_law : PySem.W.nsIn K mainGlobals "law" = some (some (.ref f_law)))
    (l_law : K.lookup f_law = some ⟨oc_law, od_law, .func (PySem.W.fnOf "law" "law" (defArgs s_law) (defBody s_law) (defScope s_law) .none kV_law dc_law pm_law an_law cd_law ct_law), sl_law⟩)
    (c_law : PySem.W.codeIn K cd_law "law" = true)
    (k_law : PySem.W.keepIn K (.ref f_law) = true)
    (v_MAX_TICKS : PySem.W.nsIn K mainGlobals "MAX_TICKS" = some (some (.int 400 t_MAX_TICKS)))
    (v_MAX_VALUE : PySem.W.nsIn K mainGlobals "MAX_VALUE" = some (some (.int 2000 t_MAX_VALUE)))
    (v_MAX_VALUES : PySem.W.nsIn K mainGlobals "MAX_VALUES" = some (some (.int 24 t_MAX_VALUES)))
    (v_PERIODS : PySem.W.nsIn K mainGlobals "PERIODS" = some (some (.ref a_PERIODS)))
    (l_PERIODS : K.lookup a_PERIODS = some ⟨.type "tuple", od_PERIODS, .seq #[.int 1 uPERIODS0, .int 2 uPERIODS1, .int 3 uPERIODS2, .int 4 uPERIODS3, .int 6 uPERIODS4, .int 12 uPERIODS5] n_PERIODS, sl_PERIODS⟩)
    (z_RuntimeError : PySem.W.nsIn K mainGlobals "RuntimeError" = some none)
    (z_ValueError : PySem.W.nsIn K mainGlobals "ValueError" = some none)
    (z_abs : PySem.W.nsIn K mainGlobals "abs" = some none)
    (z_bool : PySem.W.nsIn K mainGlobals "bool" = some none)
    (z_divmod : PySem.W.nsIn K mainGlobals "divmod" = some none)
    (z_enumerate : PySem.W.nsIn K mainGlobals "enumerate" = some none)
    (z_int : PySem.W.nsIn K mainGlobals "int" = some none)
    (z_isinstance : PySem.W.nsIn K mainGlobals "isinstance" = some none)
    (z_len : PySem.W.nsIn K mainGlobals "len" = some none)
    (z_list : PySem.W.nsIn K mainGlobals "list" = some none)
    (z_max : PySem.W.nsIn K mainGlobals "max" = some none)
    (z_min : PySem.W.nsIn K mainGlobals "min" = some none)
    (z_range : PySem.W.nsIn K mainGlobals "range" = some none)
    (z_repr : PySem.W.nsIn K mainGlobals "repr" = some none)
    (z_reversed : PySem.W.nsIn K mainGlobals "reversed" = some none)
    (z_tuple : PySem.W.nsIn K mainGlobals "tuple" = some none)
    : ∃ fd : FuncData, (∀ (s : Shared) (v : Value), BindsTo s fd ⟨[v], []⟩ [("_law_script", v)]) ∧ ∀ base : Heap, K.In base → base.Ns mainGlobals mg → VG.FnG l.prog w K mg base CX0 13 fa fd ["_law_script"] (spL K) := by
  have e := hfa.symm.trans (PySem.W.mg_of X G a_law)
  cases e
  let A : Ad := {
    DueError := C_DueError,
    InvalidCurve := C_InvalidCurve,
    InvalidTick := C_InvalidTick,
    TooSlow := C_TooSlow,
    InvalidRecord := C_InvalidRecord,
    InvalidLength := C_InvalidLength,
    InvalidCount := C_InvalidCount,
    NotGood := C_NotGood,
    Curve := C_Curve,
    Police := C_Police,
    f_InvalidLength_init := f_InvalidLength_init,
    d_InvalidLength_init := PySem.W.fnOf "__init__" "InvalidLength.__init__" (defArgs s_InvalidLength_init) (defBody s_InvalidLength_init) (defScope s_InvalidLength_init) .none kV_InvalidLength_init dc_InvalidLength_init pm_InvalidLength_init an_InvalidLength_init cd_InvalidLength_init ct_InvalidLength_init,
    f_InvalidCount_init := f_InvalidCount_init,
    d_InvalidCount_init := PySem.W.fnOf "__init__" "InvalidCount.__init__" (defArgs s_InvalidCount_init) (defBody s_InvalidCount_init) (defScope s_InvalidCount_init) .none kV_InvalidCount_init dc_InvalidCount_init pm_InvalidCount_init an_InvalidCount_init cd_InvalidCount_init ct_InvalidCount_init,
    f_InvalidRecord_init := f_InvalidRecord_init,
    d_InvalidRecord_init := PySem.W.fnOf "__init__" "InvalidRecord.__init__" (defArgs s_InvalidRecord_init) (defBody s_InvalidRecord_init) (defScope s_InvalidRecord_init) .none kV_InvalidRecord_init dc_InvalidRecord_init pm_InvalidRecord_init an_InvalidRecord_init cd_InvalidRecord_init ct_InvalidRecord_init,
    f_NotGood_init := f_NotGood_init,
    d_NotGood_init := PySem.W.fnOf "__init__" "NotGood.__init__" (defArgs s_NotGood_init) (defBody s_NotGood_init) (defScope s_NotGood_init) .none kV_NotGood_init dc_NotGood_init pm_NotGood_init an_NotGood_init cd_NotGood_init ct_NotGood_init,
    f_is_integer := f_is_integer,
    d_is_integer := PySem.W.fnOf "is_integer" "is_integer" (defArgs s_is_integer) (defBody s_is_integer) (defScope s_is_integer) .none kV_is_integer dc_is_integer pm_is_integer an_is_integer cd_is_integer ct_is_integer,
    f_is_count := f_is_count,
    d_is_count := PySem.W.fnOf "is_count" "is_count" (defArgs s_is_count) (defBody s_is_count) (defScope s_is_count) .none kV_is_count dc_is_count pm_is_count an_is_count cd_is_count ct_is_count,
    f_is_count_to := f_is_count_to,
    d_is_count_to := PySem.W.fnOf "is_count_to" "is_count_to" (defArgs s_is_count_to) (defBody s_is_count_to) (defScope s_is_count_to) .none kV_is_count_to dc_is_count_to pm_is_count_to an_is_count_to cd_is_count_to ct_is_count_to,
    f_require_count := f_require_count,
    d_require_count := PySem.W.fnOf "require_count" "require_count" (defArgs s_require_count) (defBody s_require_count) (defScope s_require_count) .none kV_require_count dc_require_count pm_require_count an_require_count cd_require_count ct_require_count,
    f_require_count_to := f_require_count_to,
    d_require_count_to := PySem.W.fnOf "require_count_to" "require_count_to" (defArgs s_require_count_to) (defBody s_require_count_to) (defScope s_require_count_to) .none kV_require_count_to dc_require_count_to pm_require_count_to an_require_count_to cd_require_count_to ct_require_count_to,
    f_rounded_up := f_rounded_up,
    d_rounded_up := PySem.W.fnOf "rounded_up" "rounded_up" (defArgs s_rounded_up) (defBody s_rounded_up) (defScope s_rounded_up) .none kV_rounded_up dc_rounded_up pm_rounded_up an_rounded_up cd_rounded_up ct_rounded_up,
    f_value_at := f_value_at,
    d_value_at := PySem.W.fnOf "value_at" "value_at" (defArgs s_value_at) (defBody s_value_at) (defScope s_value_at) .none kV_value_at dc_value_at pm_value_at an_value_at cd_value_at ct_value_at,
    f_least_form := f_least_form,
    d_least_form := PySem.W.fnOf "least_form" "least_form" (defArgs s_least_form) (defBody s_least_form) (defScope s_least_form) .none kV_least_form dc_least_form pm_least_form an_least_form cd_least_form ct_least_form,
    f_least_period := f_least_period,
    d_least_period := PySem.W.fnOf "least_period" "least_period" (defArgs s_least_period) (defBody s_least_period) (defScope s_least_period) .none kV_least_period dc_least_period pm_least_period an_least_period cd_least_period ct_least_period,
    f_C_init := f_C_init,
    d_C_init := PySem.W.fnOf "__init__" "Curve.__init__" (defArgs s_C_init) (defBody s_C_init) (defScope s_C_init) .none (.ref D_C_init) dc_C_init pm_C_init an_C_init cd_C_init ct_C_init,
    f_C_first_values := f_C_first_values,
    d_C_first_values := PySem.W.fnOf "first_values" "Curve.first_values" (defArgs s_C_first_values) (defBody s_C_first_values) (defScope s_C_first_values) .none kV_C_first_values dc_C_first_values pm_C_first_values an_C_first_values cd_C_first_values ct_C_first_values,
    f_C_at := f_C_at,
    d_C_at := PySem.W.fnOf "at" "Curve.at" (defArgs s_C_at) (defBody s_C_at) (defScope s_C_at) .none kV_C_at dc_C_at pm_C_at an_C_at cd_C_at ct_C_at,
    f_C_find_break := f_C_find_break,
    d_C_find_break := PySem.W.fnOf "find_break" "Curve.find_break" (defArgs s_C_find_break) (defBody s_C_find_break) (defScope s_C_find_break) .none kV_C_find_break dc_C_find_break pm_C_find_break an_C_find_break cd_C_find_break ct_C_find_break,
    f_make_curve := f_make_curve,
    d_make_curve := PySem.W.fnOf "make_curve" "make_curve" (defArgs s_make_curve) (defBody s_make_curve) (defScope s_make_curve) .none kV_make_curve dc_make_curve pm_make_curve an_make_curve cd_make_curve ct_make_curve,
    f_first_break := f_first_break,
    d_first_break := PySem.W.fnOf "first_break" "first_break" (defArgs s_first_break) (defBody s_first_break) (defScope s_first_break) .none kV_first_break dc_first_break pm_first_break an_first_break cd_first_break ct_first_break,
    f_require_good := f_require_good,
    d_require_good := PySem.W.fnOf "require_good" "require_good" (defArgs s_require_good) (defBody s_require_good) (defScope s_require_good) .none kV_require_good dc_require_good pm_require_good an_require_good cd_require_good ct_require_good,
    f_find_problem := f_find_problem,
    d_find_problem := PySem.W.fnOf "find_problem" "find_problem" (defArgs s_find_problem) (defBody s_find_problem) (defScope s_find_problem) .none kV_find_problem dc_find_problem pm_find_problem an_find_problem cd_find_problem ct_find_problem,
    f_most_in := f_most_in,
    d_most_in := PySem.W.fnOf "most_in" "most_in" (defArgs s_most_in) (defBody s_most_in) (defScope s_most_in) .none kV_most_in dc_most_in pm_most_in an_most_in cd_most_in ct_most_in,
    f_keeps := f_keeps,
    d_keeps := PySem.W.fnOf "keeps" "keeps" (defArgs s_keeps) (defBody s_keeps) (defScope s_keeps) .none kV_keeps dc_keeps pm_keeps an_keeps cd_keeps ct_keeps,
    f_breach := f_breach,
    d_breach := PySem.W.fnOf "breach" "breach" (defArgs s_breach) (defBody s_breach) (defScope s_breach) .none kV_breach dc_breach pm_breach an_breach cd_breach ct_breach,
    f_tightest := f_tightest,
    d_tightest := PySem.W.fnOf "tightest" "tightest" (defArgs s_tightest) (defBody s_tightest) (defScope s_tightest) .none kV_tightest dc_tightest pm_tightest an_tightest cd_tightest ct_tightest,
    f_greedy := f_greedy,
    d_greedy := PySem.W.fnOf "greedy" "greedy" (defArgs s_greedy) (defBody s_greedy) (defScope s_greedy) .none kV_greedy dc_greedy pm_greedy an_greedy cd_greedy ct_greedy,
    f_shaped := f_shaped,
    d_shaped := PySem.W.fnOf "shaped" "shaped" (defArgs s_shaped) (defBody s_shaped) (defScope s_shaped) .none kV_shaped dc_shaped pm_shaped an_shaped cd_shaped ct_shaped,
    f_require_record := f_require_record,
    d_require_record := PySem.W.fnOf "require_record" "require_record" (defArgs s_require_record) (defBody s_require_record) (defScope s_require_record) .none kV_require_record dc_require_record pm_require_record an_require_record cd_require_record ct_require_record,
    f_sums_before := f_sums_before,
    d_sums_before := PySem.W.fnOf "sums_before" "sums_before" (defArgs s_sums_before) (defBody s_sums_before) (defScope s_sums_before) .none kV_sums_before dc_sums_before pm_sums_before an_sums_before cd_sums_before ct_sums_before,
    f_window_sums := f_window_sums,
    d_window_sums := PySem.W.fnOf "window_sums" "window_sums" (defArgs s_window_sums) (defBody s_window_sums) (defScope s_window_sums) .none kV_window_sums dc_window_sums pm_window_sums an_window_sums cd_window_sums ct_window_sums,
    f_free_after := f_free_after,
    d_free_after := PySem.W.fnOf "free_after" "free_after" (defArgs s_free_after) (defBody s_free_after) (defScope s_free_after) .none kV_free_after dc_free_after pm_free_after an_free_after cd_free_after ct_free_after,
    f_P_init := f_P_init,
    d_P_init := PySem.W.fnOf "__init__" "Police.__init__" (defArgs s_P_init) (defBody s_P_init) (defScope s_P_init) .none (.ref D_P_init) dc_P_init pm_P_init an_P_init cd_P_init ct_P_init,
    p_P_held := p_P_held,
    f_P_held := f_P_held,
    d_P_held := PySem.W.fnOf "held" "Police.held" (defArgs s_P_held) (defBody s_P_held) (defScope s_P_held) .none kV_P_held dc_P_held pm_P_held an_P_held cd_P_held ct_P_held,
    p_P_queue := p_P_queue,
    f_P_queue := f_P_queue,
    d_P_queue := PySem.W.fnOf "queue" "Police.queue" (defArgs s_P_queue) (defBody s_P_queue) (defScope s_P_queue) .none kV_P_queue dc_P_queue pm_P_queue an_P_queue cd_P_queue ct_P_queue,
    p_P_returned := p_P_returned,
    f_P_returned := f_P_returned,
    d_P_returned := PySem.W.fnOf "returned" "Police.returned" (defArgs s_P_returned) (defBody s_P_returned) (defScope s_P_returned) .none kV_P_returned dc_P_returned pm_P_returned an_P_returned cd_P_returned ct_P_returned,
    f_P_step := f_P_step,
    d_P_step := PySem.W.fnOf "step" "Police.step" (defArgs s_P_step) (defBody s_P_step) (defScope s_P_step) .none (.ref D_P_step) dc_P_step pm_P_step an_P_step cd_P_step ct_P_step,
    f_P_record := f_P_record,
    d_P_record := PySem.W.fnOf "record" "Police.record" (defArgs s_P_record) (defBody s_P_record) (defScope s_P_record) .none kV_P_record dc_P_record pm_P_record an_P_record cd_P_record ct_P_record,
    f_P_binding := f_P_binding,
    d_P_binding := PySem.W.fnOf "binding" "Police.binding" (defArgs s_P_binding) (defBody s_P_binding) (defScope s_P_binding) .none kV_P_binding dc_P_binding pm_P_binding an_P_binding cd_P_binding ct_P_binding,
    f_l_rng := f_l_rng,
    d_l_rng := PySem.W.fnOf "_law_rng" "_law_rng" (defArgs s_l_rng) (defBody s_l_rng) (defScope s_l_rng) .none kV_l_rng dc_l_rng pm_l_rng an_l_rng cd_l_rng ct_l_rng,
    f_l_draw := f_l_draw,
    d_l_draw := PySem.W.fnOf "_law_draw" "_law_draw" (defArgs s_l_draw) (defBody s_l_draw) (defScope s_l_draw) .none kV_l_draw dc_l_draw pm_l_draw an_l_draw cd_l_draw ct_l_draw,
    f_l_choice := f_l_choice,
    d_l_choice := PySem.W.fnOf "_law_choice" "_law_choice" (defArgs s_l_choice) (defBody s_l_choice) (defScope s_l_choice) .none kV_l_choice dc_l_choice pm_l_choice an_l_choice cd_l_choice ct_l_choice,
    f_l_odd := f_l_odd,
    d_l_odd := PySem.W.fnOf "_law_odd" "_law_odd" (defArgs s_l_odd) (defBody s_l_odd) (defScope s_l_odd) .none kV_l_odd dc_l_odd pm_l_odd an_l_odd cd_l_odd ct_l_odd,
    f_l_record := f_l_record,
    d_l_record := PySem.W.fnOf "_law_record" "_law_record" (defArgs s_l_record) (defBody s_l_record) (defScope s_l_record) .none kV_l_record dc_l_record pm_l_record an_l_record cd_l_record ct_l_record,
    f_l_curve := f_l_curve,
    d_l_curve := PySem.W.fnOf "_law_curve" "_law_curve" (defArgs s_l_curve) (defBody s_l_curve) (defScope s_l_curve) .none kV_l_curve dc_l_curve pm_l_curve an_l_curve cd_l_curve ct_l_curve,
    f_l_count := f_l_count,
    d_l_count := PySem.W.fnOf "_law_count" "_law_count" (defArgs s_l_count) (defBody s_l_count) (defScope s_l_count) .none kV_l_count dc_l_count pm_l_count an_l_count cd_l_count ct_l_count,
    f_l_called := f_l_called,
    d_l_called := PySem.W.fnOf "_law_called" "_law_called" (defArgs s_l_called) (defBody s_l_called) (defScope s_l_called) .none kV_l_called dc_l_called pm_l_called an_l_called cd_l_called ct_l_called,
    f_l_fault := f_l_fault,
    d_l_fault := PySem.W.fnOf "_law_fault" "_law_fault" (defArgs s_l_fault) (defBody s_l_fault) (defScope s_l_fault) .none kV_l_fault dc_l_fault pm_l_fault an_l_fault cd_l_fault ct_l_fault,
    f_l_due := f_l_due,
    d_l_due := PySem.W.fnOf "_law_due" "_law_due" (defArgs s_l_due) (defBody s_l_due) (defScope s_l_due) .none kV_l_due dc_l_due pm_l_due an_l_due cd_l_due ct_l_due,
    f_l_calls_right := f_l_calls_right,
    d_l_calls_right := PySem.W.fnOf "_law_calls_right" "_law_calls_right" (defArgs s_l_calls_right) (defBody s_l_calls_right) (defScope s_l_calls_right) .none kV_l_calls_right dc_l_calls_right pm_l_calls_right an_l_calls_right cd_l_calls_right ct_l_calls_right,
    f_l_shown := f_l_shown,
    d_l_shown := PySem.W.fnOf "_law_shown" "_law_shown" (defArgs s_l_shown) (defBody s_l_shown) (defScope s_l_shown) .none kV_l_shown dc_l_shown pm_l_shown an_l_shown cd_l_shown ct_l_shown,
    f_l_steps_right := f_l_steps_right,
    d_l_steps_right := PySem.W.fnOf "_law_steps_right" "_law_steps_right" (defArgs s_l_steps_right) (defBody s_l_steps_right) (defScope s_l_steps_right) .none kV_l_steps_right dc_l_steps_right pm_l_steps_right an_l_steps_right cd_l_steps_right ct_l_steps_right,
    f_law := fa,
    d_law := PySem.W.fnOf "law" "law" (defArgs s_law) (defBody s_law) (defScope s_law) .none kV_law dc_law pm_law an_law cd_law ct_law,
    t_MAX_TICKS := t_MAX_TICKS,
    t_MAX_VALUE := t_MAX_VALUE,
    t_MAX_VALUES := t_MAX_VALUES,
    a_PERIODS := a_PERIODS }
  have T : Txt K mg A := {
    m_DueError := PySem.W.mg_of X G g_DueError,
    m_InvalidCurve := PySem.W.mg_of X G g_InvalidCurve,
    m_InvalidTick := PySem.W.mg_of X G g_InvalidTick,
    m_TooSlow := PySem.W.mg_of X G g_TooSlow,
    m_InvalidRecord := PySem.W.mg_of X G g_InvalidRecord,
    O_InvalidRecord := ⟨⟨_, _, _, _, VX.bsV, xi_InvalidRecord, xo_InvalidRecord⟩, hd_InvalidRecord, sa_InvalidRecord, xe_InvalidRecord, ty_InvalidRecord, kc_InvalidRecord⟩,
    xf_InvalidRecord := ⟨ga_InvalidRecord, gt_InvalidRecord, xe_InvalidRecord, hd_InvalidRecord⟩,
    as_InvalidRecord := ⟨VX.isC hd_InvalidRecord, ga_InvalidRecord, gt_InvalidRecord, xe_InvalidRecord, cc_InvalidRecord, q_gn, q_tk, mr_InvalidRecord⟩,
    ex_InvalidRecord := PySem.W.exm_ref xe_InvalidRecord hd_InvalidRecord ty_InvalidRecord xm_InvalidRecord,
    n_InvalidRecord_position := n_InvalidRecord_position,
    m_InvalidLength := PySem.W.mg_of X G g_InvalidLength,
    O_InvalidLength := ⟨⟨_, _, _, _, VX.bsV, xi_InvalidLength, xo_InvalidLength⟩, hd_InvalidLength, sa_InvalidLength, xe_InvalidLength, ty_InvalidLength, kc_InvalidLength⟩,
    xf_InvalidLength := ⟨ga_InvalidLength, gt_InvalidLength, xe_InvalidLength, hd_InvalidLength⟩,
    as_InvalidLength := ⟨VX.isC hd_InvalidLength, ga_InvalidLength, gt_InvalidLength, xe_InvalidLength, cc_InvalidLength, q_gn, q_tk, mr_InvalidLength⟩,
    ex_InvalidLength := PySem.W.exm_ref xe_InvalidLength hd_InvalidLength ty_InvalidLength xm_InvalidLength,
    n_InvalidLength_value := n_InvalidLength_value,
    m_InvalidCount := PySem.W.mg_of X G g_InvalidCount,
    O_InvalidCount := ⟨⟨_, _, _, _, VX.bsV, xi_InvalidCount, xo_InvalidCount⟩, hd_InvalidCount, sa_InvalidCount, xe_InvalidCount, ty_InvalidCount, kc_InvalidCount⟩,
    xf_InvalidCount := ⟨ga_InvalidCount, gt_InvalidCount, xe_InvalidCount, hd_InvalidCount⟩,
    as_InvalidCount := ⟨VX.isC hd_InvalidCount, ga_InvalidCount, gt_InvalidCount, xe_InvalidCount, cc_InvalidCount, q_gn, q_tk, mr_InvalidCount⟩,
    ex_InvalidCount := PySem.W.exm_ref xe_InvalidCount hd_InvalidCount ty_InvalidCount xm_InvalidCount,
    n_InvalidCount_value := n_InvalidCount_value,
    m_NotGood := PySem.W.mg_of X G g_NotGood,
    O_NotGood := ⟨⟨_, _, _, _, VX.bsR, xi_NotGood, xo_NotGood⟩, hd_NotGood, sa_NotGood, xe_NotGood, ty_NotGood, kc_NotGood⟩,
    xf_NotGood := ⟨ga_NotGood, gt_NotGood, xe_NotGood, hd_NotGood⟩,
    as_NotGood := ⟨VX.isC hd_NotGood, ga_NotGood, gt_NotGood, xe_NotGood, cc_NotGood, q_gn, q_tk, mr_NotGood⟩,
    ex_NotGood := PySem.W.exm_ref xe_NotGood hd_NotGood ty_NotGood xm_NotGood,
    n_NotGood_first := n_NotGood_first,
    n_NotGood_second := n_NotGood_second,
    ex_InvalidRecord_DueError := PySem.W.exm_ref xe_DueError hd_DueError ty_DueError xm_InvalidRecord_DueError,
    ex_InvalidLength_DueError := PySem.W.exm_ref xe_DueError hd_DueError ty_DueError xm_InvalidLength_DueError,
    ex_InvalidCount_DueError := PySem.W.exm_ref xe_DueError hd_DueError ty_DueError xm_InvalidCount_DueError,
    ex_NotGood_DueError := PySem.W.exm_ref xe_DueError hd_DueError ty_DueError xm_NotGood_DueError,
    kt_InvalidRecord_InvalidCurve_InvalidTick := kt_InvalidRecord_InvalidCurve_InvalidTick,
    kt_InvalidLength_InvalidCurve_InvalidTick := kt_InvalidLength_InvalidCurve_InvalidTick,
    kt_InvalidCount_InvalidCurve_InvalidTick := kt_InvalidCount_InvalidCurve_InvalidTick,
    kt_InvalidRecord_ValueError := kt_InvalidRecord_ValueError,
    kt_InvalidLength_ValueError := kt_InvalidLength_ValueError,
    kt_InvalidCount_ValueError := kt_InvalidCount_ValueError,
    kt_InvalidRecord_InvalidRecord := kt_InvalidRecord_InvalidRecord,
    kt_InvalidLength_InvalidRecord := kt_InvalidLength_InvalidRecord,
    kt_InvalidCount_InvalidRecord := kt_InvalidCount_InvalidRecord,
    kt_InvalidLength_InvalidLength := kt_InvalidLength_InvalidLength,
    kt_InvalidCount_InvalidLength := kt_InvalidCount_InvalidLength,
    kt_InvalidCount_InvalidCount := kt_InvalidCount_InvalidCount,
    kt_NotGood_TooSlow := kt_NotGood_TooSlow,
    kt_NotGood_RuntimeError := kt_NotGood_RuntimeError,
    m_Curve := PySem.W.mg_of X G g_Curve,
    cl := ⟨pg_Curve, hd_Curve, po_Curve, sa_Curve⟩,
    M_Curve := ⟨mk_Curve, a_C_init, i_C_init, kc_Curve⟩,
    n_values := n_Curve_values,
    n_period := n_Curve_period,
    n_gain := n_Curve_gain,
    n_was_searched := n_Curve_was_searched,
    n_break := n_Curve_break,
    m_Police := PySem.W.mg_of X G g_Police,
    clPolice := ⟨pg_Police, hd_Police, po_Police, sa_Police⟩,
    M_Police := ⟨mk_Police, a_P_init, i_P_init, kc_Police⟩,
    n_curve := n_Police_curve,
    n_queue := n_Police_queue,
    n_held := n_Police_held,
    n_returned := n_Police_returned,
    n_entered := n_Police_entered,
    n_was_closed := n_Police_was_closed,
    n_limits := n_Police_limits,
    F_InvalidLength_init := fun_mk (st := s_InvalidLength_init) l_InvalidLength_init c_InvalidLength_init k_InvalidLength_init,
    b_InvalidLength_init := ((fun_mk (st := s_InvalidLength_init) l_InvalidLength_init c_InvalidLength_init k_InvalidLength_init).binds (ps := ["self", "value"]) fun _ _ _ _ _ _ us hl => match us, hl with | [_, _], _ => rfl),
    iC_InvalidLength := a_InvalidLength_init,
    tI_InvalidLength := tI_InvalidLength,
    F_InvalidCount_init := fun_mk (st := s_InvalidCount_init) l_InvalidCount_init c_InvalidCount_init k_InvalidCount_init,
    b_InvalidCount_init := ((fun_mk (st := s_InvalidCount_init) l_InvalidCount_init c_InvalidCount_init k_InvalidCount_init).binds (ps := ["self", "value"]) fun _ _ _ _ _ _ us hl => match us, hl with | [_, _], _ => rfl),
    iC_InvalidCount := a_InvalidCount_init,
    tI_InvalidCount := tI_InvalidCount,
    F_InvalidRecord_init := fun_mk (st := s_InvalidRecord_init) l_InvalidRecord_init c_InvalidRecord_init k_InvalidRecord_init,
    b_InvalidRecord_init := ((fun_mk (st := s_InvalidRecord_init) l_InvalidRecord_init c_InvalidRecord_init k_InvalidRecord_init).binds (ps := ["self", "position"]) fun _ _ _ _ _ _ us hl => match us, hl with | [_, _], _ => rfl),
    iC_InvalidRecord := a_InvalidRecord_init,
    tI_InvalidRecord := tI_InvalidRecord,
    F_NotGood_init := fun_mk (st := s_NotGood_init) l_NotGood_init c_NotGood_init k_NotGood_init,
    b_NotGood_init := ((fun_mk (st := s_NotGood_init) l_NotGood_init c_NotGood_init k_NotGood_init).binds (ps := ["self", "first", "second"]) fun _ _ _ _ _ _ us hl => match us, hl with | [_, _, _], _ => rfl),
    iC_NotGood := a_NotGood_init,
    tI_NotGood := tI_NotGood,
    F_is_integer := fun_mk (st := s_is_integer) l_is_integer c_is_integer k_is_integer,
    m_is_integer := PySem.W.mg_of X G a_is_integer,
    k_is_integer := k_is_integer,
    b_is_integer := ((fun_mk (st := s_is_integer) l_is_integer c_is_integer k_is_integer).binds (ps := ["value"]) fun _ _ _ _ _ _ us hl => match us, hl with | [_], _ => rfl),
    F_is_count := fun_mk (st := s_is_count) l_is_count c_is_count k_is_count,
    m_is_count := PySem.W.mg_of X G a_is_count,
    k_is_count := k_is_count,
    b_is_count := ((fun_mk (st := s_is_count) l_is_count c_is_count k_is_count).binds (ps := ["value"]) fun _ _ _ _ _ _ us hl => match us, hl with | [_], _ => rfl),
    F_is_count_to := fun_mk (st := s_is_count_to) l_is_count_to c_is_count_to k_is_count_to,
    m_is_count_to := PySem.W.mg_of X G a_is_count_to,
    k_is_count_to := k_is_count_to,
    b_is_count_to := ((fun_mk (st := s_is_count_to) l_is_count_to c_is_count_to k_is_count_to).binds (ps := ["value", "most"]) fun _ _ _ _ _ _ us hl => match us, hl with | [_, _], _ => rfl),
    F_require_count := fun_mk (st := s_require_count) l_require_count c_require_count k_require_count,
    m_require_count := PySem.W.mg_of X G a_require_count,
    k_require_count := k_require_count,
    b_require_count := ((fun_mk (st := s_require_count) l_require_count c_require_count k_require_count).binds (ps := ["value"]) fun _ _ _ _ _ _ us hl => match us, hl with | [_], _ => rfl),
    F_require_count_to := fun_mk (st := s_require_count_to) l_require_count_to c_require_count_to k_require_count_to,
    m_require_count_to := PySem.W.mg_of X G a_require_count_to,
    k_require_count_to := k_require_count_to,
    b_require_count_to := ((fun_mk (st := s_require_count_to) l_require_count_to c_require_count_to k_require_count_to).binds (ps := ["value", "most"]) fun _ _ _ _ _ _ us hl => match us, hl with | [_, _], _ => rfl),
    F_rounded_up := fun_mk (st := s_rounded_up) l_rounded_up c_rounded_up k_rounded_up,
    m_rounded_up := PySem.W.mg_of X G a_rounded_up,
    k_rounded_up := k_rounded_up,
    b_rounded_up := ((fun_mk (st := s_rounded_up) l_rounded_up c_rounded_up k_rounded_up).binds (ps := ["units", "parts"]) fun _ _ _ _ _ _ us hl => match us, hl with | [_, _], _ => rfl),
    F_value_at := fun_mk (st := s_value_at) l_value_at c_value_at k_value_at,
    m_value_at := PySem.W.mg_of X G a_value_at,
    k_value_at := k_value_at,
    b_value_at := ((fun_mk (st := s_value_at) l_value_at c_value_at k_value_at).binds (ps := ["values", "period", "gain", "length"]) fun _ _ _ _ _ _ us hl => match us, hl with | [_, _, _, _], _ => rfl),
    F_least_form := fun_mk (st := s_least_form) l_least_form c_least_form k_least_form,
    m_least_form := PySem.W.mg_of X G a_least_form,
    k_least_form := k_least_form,
    b_least_form := ((fun_mk (st := s_least_form) l_least_form c_least_form k_least_form).binds (ps := ["values", "period", "gain"]) fun _ _ _ _ _ _ us hl => match us, hl with | [_, _, _], _ => rfl),
    F_least_period := fun_mk (st := s_least_period) l_least_period c_least_period k_least_period,
    m_least_period := PySem.W.mg_of X G a_least_period,
    k_least_period := k_least_period,
    b_least_period := ((fun_mk (st := s_least_period) l_least_period c_least_period k_least_period).binds (ps := ["row", "many", "period"]) fun _ _ _ _ _ _ us hl => match us, hl with | [_, _, _], _ => rfl),
    F_C_init := ⟨⟨_, _, _, _, _, _, _, _, _, _, rfl, l_C_init, c_C_init, .inl ⟨rfl, rfl⟩, .inr ⟨D_C_init, rfl, by
      intro q hq
      simp only [List.mem_cons, List.not_mem_nil, or_false] at hq
      rcases hq with rfl | rfl
      · exact ⟨_, d_C_init_period, ⟨_, rfl⟩⟩
      · exact ⟨_, d_C_init_gain, ⟨_, rfl⟩⟩⟩⟩, k_C_init⟩,
    F_C_first_values := fun_mk (st := s_C_first_values) l_C_first_values c_C_first_values k_C_first_values,
    b_C_first_values := ((fun_mk (st := s_C_first_values) l_C_first_values c_C_first_values k_C_first_values).binds (ps := ["self"]) fun _ _ _ _ _ _ us hl => match us, hl with | [_], _ => rfl),
    me_first_values := ⟨a_C_first_values, i_C_first_values, k_C_first_values⟩,
    F_C_at := fun_mk (st := s_C_at) l_C_at c_C_at k_C_at,
    b_C_at := ((fun_mk (st := s_C_at) l_C_at c_C_at k_C_at).binds (ps := ["self", "length"]) fun _ _ _ _ _ _ us hl => match us, hl with | [_, _], _ => rfl),
    me_at := ⟨a_C_at, i_C_at, k_C_at⟩,
    F_C_find_break := fun_mk (st := s_C_find_break) l_C_find_break c_C_find_break k_C_find_break,
    b_C_find_break := ((fun_mk (st := s_C_find_break) l_C_find_break c_C_find_break k_C_find_break).binds (ps := ["self"]) fun _ _ _ _ _ _ us hl => match us, hl with | [_], _ => rfl),
    me_find_break := ⟨a_C_find_break, i_C_find_break, k_C_find_break⟩,
    F_make_curve := fun_mk (st := s_make_curve) l_make_curve c_make_curve k_make_curve,
    m_make_curve := PySem.W.mg_of X G a_make_curve,
    k_make_curve := k_make_curve,
    b_make_curve := ((fun_mk (st := s_make_curve) l_make_curve c_make_curve k_make_curve).binds (ps := ["values", "period", "gain"]) fun _ _ _ _ _ _ us hl => match us, hl with | [_, _, _], _ => rfl),
    F_first_break := fun_mk (st := s_first_break) l_first_break c_first_break k_first_break,
    m_first_break := PySem.W.mg_of X G a_first_break,
    k_first_break := k_first_break,
    b_first_break := ((fun_mk (st := s_first_break) l_first_break c_first_break k_first_break).binds (ps := ["curve"]) fun _ _ _ _ _ _ us hl => match us, hl with | [_], _ => rfl),
    F_require_good := fun_mk (st := s_require_good) l_require_good c_require_good k_require_good,
    m_require_good := PySem.W.mg_of X G a_require_good,
    k_require_good := k_require_good,
    b_require_good := ((fun_mk (st := s_require_good) l_require_good c_require_good k_require_good).binds (ps := ["curve"]) fun _ _ _ _ _ _ us hl => match us, hl with | [_], _ => rfl),
    F_find_problem := fun_mk (st := s_find_problem) l_find_problem c_find_problem k_find_problem,
    m_find_problem := PySem.W.mg_of X G a_find_problem,
    k_find_problem := k_find_problem,
    b_find_problem := ((fun_mk (st := s_find_problem) l_find_problem c_find_problem k_find_problem).binds (ps := ["values", "period", "gain"]) fun _ _ _ _ _ _ us hl => match us, hl with | [_, _, _], _ => rfl),
    F_most_in := fun_mk (st := s_most_in) l_most_in c_most_in k_most_in,
    m_most_in := PySem.W.mg_of X G a_most_in,
    k_most_in := k_most_in,
    b_most_in := ((fun_mk (st := s_most_in) l_most_in c_most_in k_most_in).binds (ps := ["record", "length"]) fun _ _ _ _ _ _ us hl => match us, hl with | [_, _], _ => rfl),
    F_keeps := fun_mk (st := s_keeps) l_keeps c_keeps k_keeps,
    m_keeps := PySem.W.mg_of X G a_keeps,
    k_keeps := k_keeps,
    b_keeps := ((fun_mk (st := s_keeps) l_keeps c_keeps k_keeps).binds (ps := ["record", "curve"]) fun _ _ _ _ _ _ us hl => match us, hl with | [_, _], _ => rfl),
    F_breach := fun_mk (st := s_breach) l_breach c_breach k_breach,
    m_breach := PySem.W.mg_of X G a_breach,
    k_breach := k_breach,
    b_breach := ((fun_mk (st := s_breach) l_breach c_breach k_breach).binds (ps := ["record", "curve"]) fun _ _ _ _ _ _ us hl => match us, hl with | [_, _], _ => rfl),
    F_tightest := fun_mk (st := s_tightest) l_tightest c_tightest k_tightest,
    m_tightest := PySem.W.mg_of X G a_tightest,
    k_tightest := k_tightest,
    b_tightest := ((fun_mk (st := s_tightest) l_tightest c_tightest k_tightest).binds (ps := ["record"]) fun _ _ _ _ _ _ us hl => match us, hl with | [_], _ => rfl),
    F_greedy := fun_mk (st := s_greedy) l_greedy c_greedy k_greedy,
    m_greedy := PySem.W.mg_of X G a_greedy,
    k_greedy := k_greedy,
    b_greedy := ((fun_mk (st := s_greedy) l_greedy c_greedy k_greedy).binds (ps := ["curve", "ticks"]) fun _ _ _ _ _ _ us hl => match us, hl with | [_, _], _ => rfl),
    F_shaped := fun_mk (st := s_shaped) l_shaped c_shaped k_shaped,
    m_shaped := PySem.W.mg_of X G a_shaped,
    k_shaped := k_shaped,
    b_shaped := ((fun_mk (st := s_shaped) l_shaped c_shaped k_shaped).binds (ps := ["record", "curve"]) fun _ _ _ _ _ _ us hl => match us, hl with | [_, _], _ => rfl),
    F_require_record := fun_mk (st := s_require_record) l_require_record c_require_record k_require_record,
    m_require_record := PySem.W.mg_of X G a_require_record,
    k_require_record := k_require_record,
    b_require_record := ((fun_mk (st := s_require_record) l_require_record c_require_record k_require_record).binds (ps := ["record"]) fun _ _ _ _ _ _ us hl => match us, hl with | [_], _ => rfl),
    F_sums_before := fun_mk (st := s_sums_before) l_sums_before c_sums_before k_sums_before,
    m_sums_before := PySem.W.mg_of X G a_sums_before,
    k_sums_before := k_sums_before,
    b_sums_before := ((fun_mk (st := s_sums_before) l_sums_before c_sums_before k_sums_before).binds (ps := ["record"]) fun _ _ _ _ _ _ us hl => match us, hl with | [_], _ => rfl),
    F_window_sums := fun_mk (st := s_window_sums) l_window_sums c_window_sums k_window_sums,
    m_window_sums := PySem.W.mg_of X G a_window_sums,
    k_window_sums := k_window_sums,
    b_window_sums := ((fun_mk (st := s_window_sums) l_window_sums c_window_sums k_window_sums).binds (ps := ["sums", "length"]) fun _ _ _ _ _ _ us hl => match us, hl with | [_, _], _ => rfl),
    F_free_after := fun_mk (st := s_free_after) l_free_after c_free_after k_free_after,
    m_free_after := PySem.W.mg_of X G a_free_after,
    k_free_after := k_free_after,
    b_free_after := ((fun_mk (st := s_free_after) l_free_after c_free_after k_free_after).binds (ps := ["record", "limits"]) fun _ _ _ _ _ _ us hl => match us, hl with | [_, _], _ => rfl),
    F_P_init := ⟨⟨_, _, _, _, _, _, _, _, _, _, rfl, l_P_init, c_P_init, .inl ⟨rfl, rfl⟩, .inr ⟨D_P_init, rfl, by
      intro q hq
      simp only [List.mem_cons, List.not_mem_nil, or_false] at hq
      rcases hq with rfl
      · exact ⟨_, d_P_init_queue, ⟨_, rfl⟩⟩⟩⟩, k_P_init⟩,
    F_P_held := fun_mk (st := s_P_held) l_P_held c_P_held k_P_held,
    b_P_held := ((fun_mk (st := s_P_held) l_P_held c_P_held k_P_held).binds (ps := ["self"]) fun _ _ _ _ _ _ us hl => match us, hl with | [_], _ => rfl),
    pr_P_held := ⟨a_P_held, pg_P_held, pt_P_held, _, pr_P_held⟩,
    F_P_queue := fun_mk (st := s_P_queue) l_P_queue c_P_queue k_P_queue,
    b_P_queue := ((fun_mk (st := s_P_queue) l_P_queue c_P_queue k_P_queue).binds (ps := ["self"]) fun _ _ _ _ _ _ us hl => match us, hl with | [_], _ => rfl),
    pr_P_queue := ⟨a_P_queue, pg_P_queue, pt_P_queue, _, pr_P_queue⟩,
    F_P_returned := fun_mk (st := s_P_returned) l_P_returned c_P_returned k_P_returned,
    b_P_returned := ((fun_mk (st := s_P_returned) l_P_returned c_P_returned k_P_returned).binds (ps := ["self"]) fun _ _ _ _ _ _ us hl => match us, hl with | [_], _ => rfl),
    pr_P_returned := ⟨a_P_returned, pg_P_returned, pt_P_returned, _, pr_P_returned⟩,
    F_P_step := ⟨⟨_, _, _, _, _, _, _, _, _, _, rfl, l_P_step, c_P_step, .inl ⟨rfl, rfl⟩, .inr ⟨D_P_step, rfl, by
      intro q hq
      simp only [List.mem_cons, List.not_mem_nil, or_false] at hq
      rcases hq with rfl | rfl
      · exact ⟨_, d_P_step_leak, ⟨_, rfl⟩⟩
      · exact ⟨_, d_P_step_closed, rfl⟩⟩⟩, k_P_step⟩,
    me_step := ⟨a_P_step, i_P_step, k_P_step⟩,
    F_P_record := fun_mk (st := s_P_record) l_P_record c_P_record k_P_record,
    b_P_record := ((fun_mk (st := s_P_record) l_P_record c_P_record k_P_record).binds (ps := ["self"]) fun _ _ _ _ _ _ us hl => match us, hl with | [_], _ => rfl),
    me_record := ⟨a_P_record, i_P_record, k_P_record⟩,
    F_P_binding := fun_mk (st := s_P_binding) l_P_binding c_P_binding k_P_binding,
    b_P_binding := ((fun_mk (st := s_P_binding) l_P_binding c_P_binding k_P_binding).binds (ps := ["self"]) fun _ _ _ _ _ _ us hl => match us, hl with | [_], _ => rfl),
    me_binding := ⟨a_P_binding, i_P_binding, k_P_binding⟩,
    F_l_rng := fun_mk (st := s_l_rng) l_l_rng c_l_rng k_l_rng,
    m_l_rng := PySem.W.mg_of X G a_l_rng,
    k_l_rng := k_l_rng,
    b_l_rng := ((fun_mk (st := s_l_rng) l_l_rng c_l_rng k_l_rng).binds (ps := ["_law_script", "_law_k"]) fun _ _ _ _ _ _ us hl => match us, hl with | [_, _], _ => rfl),
    F_l_draw := fun_mk (st := s_l_draw) l_l_draw c_l_draw k_l_draw,
    m_l_draw := PySem.W.mg_of X G a_l_draw,
    k_l_draw := k_l_draw,
    b_l_draw := ((fun_mk (st := s_l_draw) l_l_draw c_l_draw k_l_draw).binds (ps := ["_law_rng_here", "_law_many"]) fun _ _ _ _ _ _ us hl => match us, hl with | [_, _], _ => rfl),
    F_l_choice := fun_mk (st := s_l_choice) l_l_choice c_l_choice k_l_choice,
    m_l_choice := PySem.W.mg_of X G a_l_choice,
    k_l_choice := k_l_choice,
    b_l_choice := ((fun_mk (st := s_l_choice) l_l_choice c_l_choice k_l_choice).binds (ps := ["_law_rng_here", "_law_some"]) fun _ _ _ _ _ _ us hl => match us, hl with | [_, _], _ => rfl),
    F_l_odd := fun_mk (st := s_l_odd) l_l_odd c_l_odd k_l_odd,
    m_l_odd := PySem.W.mg_of X G a_l_odd,
    k_l_odd := k_l_odd,
    b_l_odd := ((fun_mk (st := s_l_odd) l_l_odd c_l_odd k_l_odd).binds (ps := ["_law_rng_here"]) fun _ _ _ _ _ _ us hl => match us, hl with | [_], _ => rfl),
    F_l_record := fun_mk (st := s_l_record) l_l_record c_l_record k_l_record,
    m_l_record := PySem.W.mg_of X G a_l_record,
    k_l_record := k_l_record,
    b_l_record := ((fun_mk (st := s_l_record) l_l_record c_l_record k_l_record).binds (ps := ["_law_rng_here"]) fun _ _ _ _ _ _ us hl => match us, hl with | [_], _ => rfl),
    F_l_curve := fun_mk (st := s_l_curve) l_l_curve c_l_curve k_l_curve,
    m_l_curve := PySem.W.mg_of X G a_l_curve,
    k_l_curve := k_l_curve,
    b_l_curve := ((fun_mk (st := s_l_curve) l_l_curve c_l_curve k_l_curve).binds (ps := ["_law_rng_here"]) fun _ _ _ _ _ _ us hl => match us, hl with | [_], _ => rfl),
    F_l_count := fun_mk (st := s_l_count) l_l_count c_l_count k_l_count,
    m_l_count := PySem.W.mg_of X G a_l_count,
    k_l_count := k_l_count,
    b_l_count := ((fun_mk (st := s_l_count) l_l_count c_l_count k_l_count).binds (ps := ["_law_rng_here", "_law_most"]) fun _ _ _ _ _ _ us hl => match us, hl with | [_, _], _ => rfl),
    F_l_called := fun_mk (st := s_l_called) l_l_called c_l_called k_l_called,
    m_l_called := PySem.W.mg_of X G a_l_called,
    k_l_called := k_l_called,
    b_l_called := ((fun_mk (st := s_l_called) l_l_called c_l_called k_l_called).binds (ps := ["_law_word", "_law_some"]) fun _ _ _ _ _ _ us hl => match us, hl with | [_, _], _ => rfl),
    F_l_fault := fun_mk (st := s_l_fault) l_l_fault c_l_fault k_l_fault,
    m_l_fault := PySem.W.mg_of X G a_l_fault,
    k_l_fault := k_l_fault,
    b_l_fault := ((fun_mk (st := s_l_fault) l_l_fault c_l_fault k_l_fault).binds (ps := ["_law_word", "_law_some"]) fun _ _ _ _ _ _ us hl => match us, hl with | [_, _], _ => rfl),
    F_l_due := fun_mk (st := s_l_due) l_l_due c_l_due k_l_due,
    m_l_due := PySem.W.mg_of X G a_l_due,
    k_l_due := k_l_due,
    b_l_due := ((fun_mk (st := s_l_due) l_l_due c_l_due k_l_due).binds (ps := ["_law_record_at", "_law_pair", "_law_count_here", "_law_word"]) fun _ _ _ _ _ _ us hl => match us, hl with | [_, _, _, _], _ => rfl),
    F_l_calls_right := fun_mk (st := s_l_calls_right) l_l_calls_right c_l_calls_right k_l_calls_right,
    m_l_calls_right := PySem.W.mg_of X G a_l_calls_right,
    k_l_calls_right := k_l_calls_right,
    b_l_calls_right := ((fun_mk (st := s_l_calls_right) l_l_calls_right c_l_calls_right k_l_calls_right).binds (ps := ["_law_rng_here"]) fun _ _ _ _ _ _ us hl => match us, hl with | [_], _ => rfl),
    F_l_shown := fun_mk (st := s_l_shown) l_l_shown c_l_shown k_l_shown,
    m_l_shown := PySem.W.mg_of X G a_l_shown,
    k_l_shown := k_l_shown,
    b_l_shown := ((fun_mk (st := s_l_shown) l_l_shown c_l_shown k_l_shown).binds (ps := ["_law_police"]) fun _ _ _ _ _ _ us hl => match us, hl with | [_], _ => rfl),
    F_l_steps_right := fun_mk (st := s_l_steps_right) l_l_steps_right c_l_steps_right k_l_steps_right,
    m_l_steps_right := PySem.W.mg_of X G a_l_steps_right,
    k_l_steps_right := k_l_steps_right,
    b_l_steps_right := ((fun_mk (st := s_l_steps_right) l_l_steps_right c_l_steps_right k_l_steps_right).binds (ps := ["_law_rng_here"]) fun _ _ _ _ _ _ us hl => match us, hl with | [_], _ => rfl),
    F_law := fun_mk (st := s_law) l_law c_law k_law,
    m_law := PySem.W.mg_of X G a_law,
    k_law := k_law,
    b_law := ((fun_mk (st := s_law) l_law c_law k_law).binds (ps := ["_law_script"]) fun _ _ _ _ _ _ us hl => match us, hl with | [_], _ => rfl),
    v_MAX_TICKS := PySem.W.mg_of X G v_MAX_TICKS,
    v_MAX_VALUE := PySem.W.mg_of X G v_MAX_VALUE,
    v_MAX_VALUES := PySem.W.mg_of X G v_MAX_VALUES,
    v_PERIODS := PySem.W.mg_of X G v_PERIODS,
    periods := fun H => .inr ⟨_, _, _, l_PERIODS, rfl, rfl, (by rw [sizeLine_eq]; show 6 ≤ _; decide), (.cons ⟨_, rfl⟩ (.cons ⟨_, rfl⟩ (.cons ⟨_, rfl⟩ (.cons ⟨_, rfl⟩ (.cons ⟨_, rfl⟩ (.cons ⟨_, rfl⟩ .nil))))))⟩,
    RuntimeError := PySem.W.mg_none_of X G z_RuntimeError,
    ValueError := PySem.W.mg_none_of X G z_ValueError,
    abs := PySem.W.mg_none_of X G z_abs,
    bool := PySem.W.mg_none_of X G z_bool,
    divmod := PySem.W.mg_none_of X G z_divmod,
    enumerate := PySem.W.mg_none_of X G z_enumerate,
    int := PySem.W.mg_none_of X G z_int,
    isinstance := PySem.W.mg_none_of X G z_isinstance,
    len := PySem.W.mg_none_of X G z_len,
    list := PySem.W.mg_none_of X G z_list,
    max := PySem.W.mg_none_of X G z_max,
    min := PySem.W.mg_none_of X G z_min,
    range := PySem.W.mg_none_of X G z_range,
    repr := PySem.W.mg_none_of X G z_repr,
    reversed := PySem.W.mg_none_of X G z_reversed,
    tuple := PySem.W.mg_none_of X G z_tuple }
  exact ⟨_, fun s v => .of_eq rfl, fun base _ _ => ok_law (P := l.prog) (w := w) (base := base) T⟩
end VK

open PySem PySem.W PyProof.Rows in
set_option maxRecDepth 100000 in
set_option maxHeartbeats 0 in
theorem PySem.Challenge.cw_dueways_k28_refused_in_stage_two_holds : PySem.Challenge.rw_dueways_k28_refused_in_stage_two.Holds := by
  refine VHd.hd ?_
  k_fill
  refine VG.walkG (n := 63) (k := 13) (x := "_law_script") (CX := fun _ => L2.CX0) (sp := fun w => VK.spL _) rfl (by decide) rfl ⟨rfl, by decide, by decide⟩ (fun w h Y => PySem.W.kIn_of Y) ?F (fun _ _ a ns hl _ hS => ⟨a, ns, rfl, hS, hl, fun _ => rfl⟩) fun _ _ _ _ _ z => z
  case F =>
    intro w mg fa h KX G hmg
    refine' VK.all_mk KX G hmg ?g_DueError ?g_InvalidCurve ?g_InvalidTick ?g_TooSlow ?g_InvalidRecord ?xi_InvalidRecord ?xo_InvalidRecord ?hd_InvalidRecord ?sa_InvalidRecord ?xe_InvalidRecord ?ty_InvalidRecord ?kc_InvalidRecord ?ga_InvalidRecord ?gt_InvalidRecord ?cc_InvalidRecord ?mr_InvalidRecord ?xm_InvalidRecord ?n_InvalidRecord_position ?q_gn ?q_tk ?g_InvalidLength ?xi_InvalidLength ?xo_InvalidLength ?hd_InvalidLength ?sa_InvalidLength ?xe_InvalidLength ?ty_InvalidLength ?kc_InvalidLength ?ga_InvalidLength ?gt_InvalidLength ?cc_InvalidLength ?mr_InvalidLength ?xm_InvalidLength ?n_InvalidLength_value ?g_InvalidCount ?xi_InvalidCount ?xo_InvalidCount ?hd_InvalidCount ?sa_InvalidCount ?xe_InvalidCount ?ty_InvalidCount ?kc_InvalidCount ?ga_InvalidCount ?gt_InvalidCount ?cc_InvalidCount ?mr_InvalidCount ?xm_InvalidCount ?n_InvalidCount_value ?g_NotGood ?xi_NotGood ?xo_NotGood ?hd_NotGood ?sa_NotGood ?xe_NotGood ?ty_NotGood ?kc_NotGood ?ga_NotGood ?gt_NotGood ?cc_NotGood ?mr_NotGood ?xm_NotGood ?n_NotGood_first ?n_NotGood_second ?xe_DueError ?hd_DueError ?ty_DueError ?xm_InvalidRecord_DueError ?xm_InvalidLength_DueError ?xm_InvalidCount_DueError ?xm_NotGood_DueError ?kt_InvalidRecord_InvalidCurve_InvalidTick ?kt_InvalidLength_InvalidCurve_InvalidTick ?kt_InvalidCount_InvalidCurve_InvalidTick ?kt_InvalidRecord_ValueError ?kt_InvalidLength_ValueError ?kt_InvalidCount_ValueError ?kt_InvalidRecord_InvalidRecord ?kt_InvalidLength_InvalidRecord ?kt_InvalidCount_InvalidRecord ?kt_InvalidLength_InvalidLength ?kt_InvalidCount_InvalidLength ?kt_InvalidCount_InvalidCount ?kt_NotGood_TooSlow ?kt_NotGood_RuntimeError ?g_Curve ?pg_Curve ?hd_Curve ?po_Curve ?sa_Curve ?mk_Curve ?kc_Curve ?n_Curve_values ?n_Curve_period ?n_Curve_gain ?n_Curve_was_searched ?n_Curve_break ?g_Police ?pg_Police ?hd_Police ?po_Police ?sa_Police ?mk_Police ?kc_Police ?n_Police_curve ?n_Police_queue ?n_Police_held ?n_Police_returned ?n_Police_entered ?n_Police_was_closed ?n_Police_limits ?a_InvalidLength_init ?i_InvalidLength_init ?l_InvalidLength_init ?c_InvalidLength_init ?k_InvalidLength_init ?tI_InvalidLength ?a_InvalidCount_init ?i_InvalidCount_init ?l_InvalidCount_init ?c_InvalidCount_init ?k_InvalidCount_init ?tI_InvalidCount ?a_InvalidRecord_init ?i_InvalidRecord_init ?l_InvalidRecord_init ?c_InvalidRecord_init ?k_InvalidRecord_init ?tI_InvalidRecord ?a_NotGood_init ?i_NotGood_init ?l_NotGood_init ?c_NotGood_init ?k_NotGood_init ?tI_NotGood ?a_is_integer ?l_is_integer ?c_is_integer ?k_is_integer ?a_is_count ?l_is_count ?c_is_count ?k_is_count ?a_is_count_to ?l_is_count_to ?c_is_count_to ?k_is_count_to ?a_require_count ?l_require_count ?c_require_count ?k_require_count ?a_require_count_to ?l_require_count_to ?c_require_count_to ?k_require_count_to ?a_rounded_up ?l_rounded_up ?c_rounded_up ?k_rounded_up ?a_value_at ?l_value_at ?c_value_at ?k_value_at ?a_least_form ?l_least_form ?c_least_form ?k_least_form ?a_least_period ?l_least_period ?c_least_period ?k_least_period ?a_C_init ?i_C_init ?l_C_init ?c_C_init ?k_C_init ?d_C_init_period ?d_C_init_gain ?a_C_first_values ?i_C_first_values ?l_C_first_values ?c_C_first_values ?k_C_first_values ?a_C_at ?i_C_at ?l_C_at ?c_C_at ?k_C_at ?a_C_find_break ?i_C_find_break ?l_C_find_break ?c_C_find_break ?k_C_find_break ?a_make_curve ?l_make_curve ?c_make_curve ?k_make_curve ?a_first_break ?l_first_break ?c_first_break ?k_first_break ?a_require_good ?l_require_good ?c_require_good ?k_require_good ?a_find_problem ?l_find_problem ?c_find_problem ?k_find_problem ?a_most_in ?l_most_in ?c_most_in ?k_most_in ?a_keeps ?l_keeps ?c_keeps ?k_keeps ?a_breach ?l_breach ?c_breach ?k_breach ?a_tightest ?l_tightest ?c_tightest ?k_tightest ?a_greedy ?l_greedy ?c_greedy ?k_greedy ?a_shaped ?l_shaped ?c_shaped ?k_shaped ?a_require_record ?l_require_record ?c_require_record ?k_require_record ?a_sums_before ?l_sums_before ?c_sums_before ?k_sums_before ?a_window_sums ?l_window_sums ?c_window_sums ?k_window_sums ?a_free_after ?l_free_after ?c_free_after ?k_free_after ?a_P_init ?i_P_init ?l_P_init ?c_P_init ?k_P_init ?d_P_init_queue ?a_P_held ?pg_P_held ?pt_P_held ?pr_P_held ?l_P_held ?c_P_held ?k_P_held ?a_P_queue ?pg_P_queue ?pt_P_queue ?pr_P_queue ?l_P_queue ?c_P_queue ?k_P_queue ?a_P_returned ?pg_P_returned ?pt_P_returned ?pr_P_returned ?l_P_returned ?c_P_returned ?k_P_returned ?a_P_step ?i_P_step ?l_P_step ?c_P_step ?k_P_step ?d_P_step_leak ?d_P_step_closed ?a_P_record ?i_P_record ?l_P_record ?c_P_record ?k_P_record ?a_P_binding ?i_P_binding ?l_P_binding ?c_P_binding ?k_P_binding ?a_l_rng ?l_l_rng ?c_l_rng ?k_l_rng ?a_l_draw ?l_l_draw ?c_l_draw ?k_l_draw ?a_l_choice ?l_l_choice ?c_l_choice ?k_l_choice ?a_l_odd ?l_l_odd ?c_l_odd ?k_l_odd ?a_l_record ?l_l_record ?c_l_record ?k_l_record ?a_l_curve ?l_l_curve ?c_l_curve ?k_l_curve ?a_l_count ?l_l_count ?c_l_count ?k_l_count ?a_l_called ?l_l_called ?c_l_called ?k_l_called ?a_l_fault ?l_l_fault ?c_l_fault ?k_l_fault ?a_l_due ?l_l_due ?c_l_due ?k_l_due ?a_l_calls_right ?l_l_calls_right ?c_l_calls_right ?k_l_calls_right ?a_l_shown ?l_l_shown ?c_l_shown ?k_l_shown ?a_l_steps_right ?l_l_steps_right ?c_l_steps_right ?k_l_steps_right ?a_law ?l_law ?c_law ?k_law ?v_MAX_TICKS ?v_MAX_VALUE ?v_MAX_VALUES ?v_PERIODS ?l_PERIODS ?z_RuntimeError ?z_ValueError ?z_abs ?z_bool ?z_divmod ?z_enumerate ?z_int ?z_isinstance ?z_len ?z_list ?z_max ?z_min ?z_range ?z_repr ?z_reversed ?z_tuple
    (case g_DueError => k_is)
    (case g_InvalidCurve => k_is)
    (case g_InvalidTick => k_is)
    (case g_TooSlow => k_is)
    (case g_InvalidRecord => k_is)
    (case xi_InvalidRecord => kx_is)
    (case xo_InvalidRecord => kx_is)
    (case hd_InvalidRecord => k_is)
    (case sa_InvalidRecord => k_is)
    (case xe_InvalidRecord => k_is)
    (case ty_InvalidRecord => k_is)
    (case kc_InvalidRecord => k_is)
    (case ga_InvalidRecord => k_is)
    (case gt_InvalidRecord => k_is)
    (case cc_InvalidRecord => k_is)
    (case mr_InvalidRecord => k_is)
    (case xm_InvalidRecord => k_is)
    (case n_InvalidRecord_position => k_is)
    (case q_gn => k_is)
    (case q_tk => k_is)
    (case g_InvalidLength => k_is)
    (case xi_InvalidLength => kx_is)
    (case xo_InvalidLength => kx_is)
    (case hd_InvalidLength => k_is)
    (case sa_InvalidLength => k_is)
    (case xe_InvalidLength => k_is)
    (case ty_InvalidLength => k_is)
    (case kc_InvalidLength => k_is)
    (case ga_InvalidLength => k_is)
    (case gt_InvalidLength => k_is)
    (case cc_InvalidLength => k_is)
    (case mr_InvalidLength => k_is)
    (case xm_InvalidLength => k_is)
    (case n_InvalidLength_value => k_is)
    (case g_InvalidCount => k_is)
    (case xi_InvalidCount => kx_is)
    (case xo_InvalidCount => kx_is)
    (case hd_InvalidCount => k_is)
    (case sa_InvalidCount => k_is)
    (case xe_InvalidCount => k_is)
    (case ty_InvalidCount => k_is)
    (case kc_InvalidCount => k_is)
    (case ga_InvalidCount => k_is)
    (case gt_InvalidCount => k_is)
    (case cc_InvalidCount => k_is)
    (case mr_InvalidCount => k_is)
    (case xm_InvalidCount => k_is)
    (case n_InvalidCount_value => k_is)
    (case g_NotGood => k_is)
    (case xi_NotGood => kx_is)
    (case xo_NotGood => kx_is)
    (case hd_NotGood => k_is)
    (case sa_NotGood => k_is)
    (case xe_NotGood => k_is)
    (case ty_NotGood => k_is)
    (case kc_NotGood => k_is)
    (case ga_NotGood => k_is)
    (case gt_NotGood => k_is)
    (case cc_NotGood => k_is)
    (case mr_NotGood => k_is)
    (case xm_NotGood => k_is)
    (case n_NotGood_first => k_is)
    (case n_NotGood_second => k_is)
    (case xe_DueError => k_is)
    (case hd_DueError => k_is)
    (case ty_DueError => k_is)
    (case xm_InvalidRecord_DueError => k_is)
    (case xm_InvalidLength_DueError => k_is)
    (case xm_InvalidCount_DueError => k_is)
    (case xm_NotGood_DueError => k_is)
    (case kt_InvalidRecord_InvalidCurve_InvalidTick => kit_is)
    (case kt_InvalidLength_InvalidCurve_InvalidTick => kit_is)
    (case kt_InvalidCount_InvalidCurve_InvalidTick => kit_is)
    (case kt_InvalidRecord_ValueError => kit_is)
    (case kt_InvalidLength_ValueError => kit_is)
    (case kt_InvalidCount_ValueError => kit_is)
    (case kt_InvalidRecord_InvalidRecord => kit_is)
    (case kt_InvalidLength_InvalidRecord => kit_is)
    (case kt_InvalidCount_InvalidRecord => kit_is)
    (case kt_InvalidLength_InvalidLength => kit_is)
    (case kt_InvalidCount_InvalidLength => kit_is)
    (case kt_InvalidCount_InvalidCount => kit_is)
    (case kt_NotGood_TooSlow => kit_is)
    (case kt_NotGood_RuntimeError => kit_is)
    (case g_Curve => k_is)
    (case pg_Curve => k_is)
    (case hd_Curve => k_is)
    (case po_Curve => k_is)
    (case sa_Curve => k_is)
    (case mk_Curve => k_is)
    (case kc_Curve => k_is)
    (case n_Curve_values => k_is)
    (case n_Curve_period => k_is)
    (case n_Curve_gain => k_is)
    (case n_Curve_was_searched => k_is)
    (case n_Curve_break => k_is)
    (case g_Police => k_is)
    (case pg_Police => k_is)
    (case hd_Police => k_is)
    (case po_Police => k_is)
    (case sa_Police => k_is)
    (case mk_Police => k_is)
    (case kc_Police => k_is)
    (case n_Police_curve => k_is)
    (case n_Police_queue => k_is)
    (case n_Police_held => k_is)
    (case n_Police_returned => k_is)
    (case n_Police_entered => k_is)
    (case n_Police_was_closed => k_is)
    (case n_Police_limits => k_is)
    (case a_InvalidLength_init => k_is)
    (case i_InvalidLength_init => k_is)
    (case l_InvalidLength_init => k_is)
    (case c_InvalidLength_init => k_is)
    (case k_InvalidLength_init => k_is)
    (case tI_InvalidLength => k_is)
    (case a_InvalidCount_init => k_is)
    (case i_InvalidCount_init => k_is)
    (case l_InvalidCount_init => k_is)
    (case c_InvalidCount_init => k_is)
    (case k_InvalidCount_init => k_is)
    (case tI_InvalidCount => k_is)
    (case a_InvalidRecord_init => k_is)
    (case i_InvalidRecord_init => k_is)
    (case l_InvalidRecord_init => k_is)
    (case c_InvalidRecord_init => k_is)
    (case k_InvalidRecord_init => k_is)
    (case tI_InvalidRecord => k_is)
    (case a_NotGood_init => k_is)
    (case i_NotGood_init => k_is)
    (case l_NotGood_init => k_is)
    (case c_NotGood_init => k_is)
    (case k_NotGood_init => k_is)
    (case tI_NotGood => k_is)
    (case a_is_integer => k_is)
    (case l_is_integer => k_is)
    (case c_is_integer => k_is)
    (case k_is_integer => k_is)
    (case a_is_count => k_is)
    (case l_is_count => k_is)
    (case c_is_count => k_is)
    (case k_is_count => k_is)
    (case a_is_count_to => k_is)
    (case l_is_count_to => k_is)
    (case c_is_count_to => k_is)
    (case k_is_count_to => k_is)
    (case a_require_count => k_is)
    (case l_require_count => k_is)
    (case c_require_count => k_is)
    (case k_require_count => k_is)
    (case a_require_count_to => k_is)
    (case l_require_count_to => k_is)
    (case c_require_count_to => k_is)
    (case k_require_count_to => k_is)
    (case a_rounded_up => k_is)
    (case l_rounded_up => k_is)
    (case c_rounded_up => k_is)
    (case k_rounded_up => k_is)
    (case a_value_at => k_is)
    (case l_value_at => k_is)
    (case c_value_at => k_is)
    (case k_value_at => k_is)
    (case a_least_form => k_is)
    (case l_least_form => k_is)
    (case c_least_form => k_is)
    (case k_least_form => k_is)
    (case a_least_period => k_is)
    (case l_least_period => k_is)
    (case c_least_period => k_is)
    (case k_least_period => k_is)
    (case a_C_init => k_is)
    (case i_C_init => k_is)
    (case l_C_init => k_is)
    (case c_C_init => k_is)
    (case k_C_init => k_is)
    (case d_C_init_period => k_is)
    (case d_C_init_gain => k_is)
    (case a_C_first_values => k_is)
    (case i_C_first_values => k_is)
    (case l_C_first_values => k_is)
    (case c_C_first_values => k_is)
    (case k_C_first_values => k_is)
    (case a_C_at => k_is)
    (case i_C_at => k_is)
    (case l_C_at => k_is)
    (case c_C_at => k_is)
    (case k_C_at => k_is)
    (case a_C_find_break => k_is)
    (case i_C_find_break => k_is)
    (case l_C_find_break => k_is)
    (case c_C_find_break => k_is)
    (case k_C_find_break => k_is)
    (case a_make_curve => k_is)
    (case l_make_curve => k_is)
    (case c_make_curve => k_is)
    (case k_make_curve => k_is)
    (case a_first_break => k_is)
    (case l_first_break => k_is)
    (case c_first_break => k_is)
    (case k_first_break => k_is)
    (case a_require_good => k_is)
    (case l_require_good => k_is)
    (case c_require_good => k_is)
    (case k_require_good => k_is)
    (case a_find_problem => k_is)
    (case l_find_problem => k_is)
    (case c_find_problem => k_is)
    (case k_find_problem => k_is)
    (case a_most_in => k_is)
    (case l_most_in => k_is)
    (case c_most_in => k_is)
    (case k_most_in => k_is)
    (case a_keeps => k_is)
    (case l_keeps => k_is)
    (case c_keeps => k_is)
    (case k_keeps => k_is)
    (case a_breach => k_is)
    (case l_breach => k_is)
    (case c_breach => k_is)
    (case k_breach => k_is)
    (case a_tightest => k_is)
    (case l_tightest => k_is)
    (case c_tightest => k_is)
    (case k_tightest => k_is)
    (case a_greedy => k_is)
    (case l_greedy => k_is)
    (case c_greedy => k_is)
    (case k_greedy => k_is)
    (case a_shaped => k_is)
    (case l_shaped => k_is)
    (case c_shaped => k_is)
    (case k_shaped => k_is)
    (case a_require_record => k_is)
    (case l_require_record => k_is)
    (case c_require_record => k_is)
    (case k_require_record => k_is)
    (case a_sums_before => k_is)
    (case l_sums_before => k_is)
    (case c_sums_before => k_is)
    (case k_sums_before => k_is)
    (case a_window_sums => k_is)
    (case l_window_sums => k_is)
    (case c_window_sums => k_is)
    (case k_window_sums => k_is)
    (case a_free_after => k_is)
    (case l_free_after => k_is)
    (case c_free_after => k_is)
    (case k_free_after => k_is)
    (case a_P_init => k_is)
    (case i_P_init => k_is)
    (case l_P_init => k_is)
    (case c_P_init => k_is)
    (case k_P_init => k_is)
    (case d_P_init_queue => k_is)
    (case a_P_held => k_is)
    (case pg_P_held => k_is)
    (case pt_P_held => k_is)
    (case pr_P_held => k_is)
    (case l_P_held => k_is)
    (case c_P_held => k_is)
    (case k_P_held => k_is)
    (case a_P_queue => k_is)
    (case pg_P_queue => k_is)
    (case pt_P_queue => k_is)
    (case pr_P_queue => k_is)
    (case l_P_queue => k_is)
    (case c_P_queue => k_is)
    (case k_P_queue => k_is)
    (case a_P_returned => k_is)
    (case pg_P_returned => k_is)
    (case pt_P_returned => k_is)
    (case pr_P_returned => k_is)
    (case l_P_returned => k_is)
    (case c_P_returned => k_is)
    (case k_P_returned => k_is)
    (case a_P_step => k_is)
    (case i_P_step => k_is)
    (case l_P_step => k_is)
    (case c_P_step => k_is)
    (case k_P_step => k_is)
    (case d_P_step_leak => k_is)
    (case d_P_step_closed => k_is)
    (case a_P_record => k_is)
    (case i_P_record => k_is)
    (case l_P_record => k_is)
    (case c_P_record => k_is)
    (case k_P_record => k_is)
    (case a_P_binding => k_is)
    (case i_P_binding => k_is)
    (case l_P_binding => k_is)
    (case c_P_binding => k_is)
    (case k_P_binding => k_is)
    (case a_l_rng => k_is)
    (case l_l_rng => k_is)
    (case c_l_rng => k_is)
    (case k_l_rng => k_is)
    (case a_l_draw => k_is)
    (case l_l_draw => k_is)
    (case c_l_draw => k_is)
    (case k_l_draw => k_is)
    (case a_l_choice => k_is)
    (case l_l_choice => k_is)
    (case c_l_choice => k_is)
    (case k_l_choice => k_is)
    (case a_l_odd => k_is)
    (case l_l_odd => k_is)
    (case c_l_odd => k_is)
    (case k_l_odd => k_is)
    (case a_l_record => k_is)
    (case l_l_record => k_is)
    (case c_l_record => k_is)
    (case k_l_record => k_is)
    (case a_l_curve => k_is)
    (case l_l_curve => k_is)
    (case c_l_curve => k_is)
    (case k_l_curve => k_is)
    (case a_l_count => k_is)
    (case l_l_count => k_is)
    (case c_l_count => k_is)
    (case k_l_count => k_is)
    (case a_l_called => k_is)
    (case l_l_called => k_is)
    (case c_l_called => k_is)
    (case k_l_called => k_is)
    (case a_l_fault => k_is)
    (case l_l_fault => k_is)
    (case c_l_fault => k_is)
    (case k_l_fault => k_is)
    (case a_l_due => k_is)
    (case l_l_due => k_is)
    (case c_l_due => k_is)
    (case k_l_due => k_is)
    (case a_l_calls_right => k_is)
    (case l_l_calls_right => k_is)
    (case c_l_calls_right => k_is)
    (case k_l_calls_right => k_is)
    (case a_l_shown => k_is)
    (case l_l_shown => k_is)
    (case c_l_shown => k_is)
    (case k_l_shown => k_is)
    (case a_l_steps_right => k_is)
    (case l_l_steps_right => k_is)
    (case c_l_steps_right => k_is)
    (case k_l_steps_right => k_is)
    (case a_law => k_is)
    (case l_law => k_is)
    (case c_law => k_is)
    (case k_law => k_is)
    (case v_MAX_TICKS => k_is)
    (case v_MAX_VALUE => k_is)
    (case v_MAX_VALUES => k_is)
    (case v_PERIODS => k_is)
    (case l_PERIODS => k_is)
    (case z_RuntimeError => k_is)
    (case z_ValueError => k_is)
    (case z_abs => k_is)
    (case z_bool => k_is)
    (case z_divmod => k_is)
    (case z_enumerate => k_is)
    (case z_int => k_is)
    (case z_isinstance => k_is)
    (case z_len => k_is)
    (case z_list => k_is)
    (case z_max => k_is)
    (case z_min => k_is)
    (case z_range => k_is)
    (case z_repr => k_is)
    (case z_reversed => k_is)
    (case z_tuple => k_is)


