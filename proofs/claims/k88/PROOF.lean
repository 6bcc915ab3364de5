import PyProof.Rows.All
import Wide.All
import OpenK.AllK
import Wide.FinOn
import HandS.ForMost
import HandS.Style
import HandS.Gcd
import HandS.Wide
import HandS.Evl
import HandS.IsInst
import HandS.RaiseMore
import KE.KMathGC
import HandS.Walk
import KE.GoesMore
import KE.GoesEnum
import HandS.List
import HandS.SetBool
import HandS.Strs
import HandS.TupSets
import KE.KSortTupG
import HandS.SortKw
import HandS.WideBits
import HandS.Conv
import HandS.ForSpec
import HandS.TryMany
import HandS.ExcIs
import HandS.ExcField
import HandS.Lambda
import HandS.Zip
import HandS.RevRange
import HandS.Sort
import KE.DataMinMax
import PyProof.ReprBulk
import KE.KExcIs
import HandS.Words
import HandS.EndTab
import HandS.TupAny
import KE.KIndexOf
import PyProof.Rows.SeqMore
import HandS.More
import KE.KNest
import PySem.Challenge.RW_holerows_k88_the_ends_of_answers
set_option Elab.async false
set_option linter.all false
set_option maxRecDepth 100000
set_option maxHeartbeats 8000000
/-! Calls of defs where nothing is being shown (no repr under way). -/
namespace Hr
open PySem PySem.Spec PyProof.Rows L2

/-- a promise that is kept wherever no repr is under way -/
structure FnG (P : Program) (w : World) (K : PySem.W.Frag) (mg : Str → Option Value) (base : Heap) (CX : CXT) (k : Nat) (f : Addr) (fd : FuncData) (ps : List Str) (sp : Sp) : Prop where
  len : ∀ vs H Q E, sp vs H Q E → vs.length = ps.length
  go : ∀ (A : Around) (around : List Env) (s : Shared) (H : Hp) (as : Args) (us : List Value) (vs : List V) (Q : VK) (E : XK),
    Room k A → A.guards = some [] → Env0 P w K mg base A around s H → BindsTo s fd as (ps.zip us) → Vals vs us → sp vs H Q E →
    codeAny (model P w) A (.call (.ref f) as) (CR CX around P w H s Q E) s

section
variable {P : Program} {w : World} {K : PySem.W.Frag} {mg : Str → Option Value} {base : Heap} {CX : CXT} {k j : Nat} {f : Addr} {fd : FuncData} {ps : List Str} {sp sp' : Sp}
theorem FnG.of (F : FnOk P w K mg base CX k f fd ps sp) : FnG P w K mg base CX k f fd ps sp :=
  ⟨F.len, fun A around s H as us vs Q E r _ e b v h => F.run A around s H as us vs Q E r e b v h⟩
theorem FnG.mono (F : FnG P w K mg base CX j f fd ps sp) (h : j ≤ k) : FnG P w K mg base CX k f fd ps sp :=
  ⟨F.len, fun A around s H as us vs Q E r => F.go A around s H as us vs Q E (r.mono h)⟩
theorem FnG.imp (F : FnG P w K mg base CX k f fd ps sp) (h : ∀ vs H Q E, sp' vs H Q E → sp vs H Q E) : FnG P w K mg base CX k f fd ps sp' :=
  ⟨fun vs H Q E q => F.len vs H Q E (h _ _ _ _ q), fun A around s H as us vs Q E r g e b v q => F.go A around s H as us vs Q E r g e b v (h _ _ _ _ q)⟩

/-- a def of the text by its body, where no repr is under way -/
theorem bodyG {x qual : Str} {st : Stmt} {N : List Str} (F : Fun K x qual st f fd) (S : FnScope N ps (defScope st)) (len : ∀ vs H Q E, sp vs H Q E → vs.length = ps.length)
    (hb : ∀ (cdv : Value) (A : Around) (around : List Env) (s : Shared) (H : Hp) (vs : List V) (Q : VK) (E : XK), Room k (A.deeper (envOfC qual (defScope st) s.heap.objs.size f cdv)) → A.guards = some [] → sp vs H Q E →
      ∃ t, PSs (cxOf CX P w K mg base N qual (defScope st) f cdv A around s H E) (defBody st) t ∧ t { nx := fun _ H' => Q .non H', rt := Q } (start N vs) H) :
    FnG P w K mg base CX (k + 1) f fd ps sp := by
  obtain ⟨oc, od, kV, doc, pm, an, cdv, ct, osl, rfl, lk, hcd⟩ := F.ex
  refine ⟨len, ?_⟩
  intro A around s H as us vs Q E r g e0 bind rv hq
  have KX : K.In s.heap := e0.mod.kin.keeps fun b o e => (e0.bs b o e).1
  have kinds : ∀ y ∈ ps.zip us, (defScope st).names.lookup y.1 = some .local ∨ ((defScope st).names.lookup y.1 = some .cell ∧ ((cellsFrom (s.heap.objs.size + 1) (defScope st).names []).lookup y.1).isSome = true) := by
    rintro ⟨n, v⟩ hy
    rcases S.par n (List.of_mem_zip hy).1 with q | q
    · exact .inl q
    · exact .inr ⟨q, PySem.W.cellsFrom_some _ _ _ (.inl q)⟩
  refine codeAny_call_function r.depth (KX _ _ lk) rfl S.co S.gen rfl (PySem.W.codeRec_of KX hcd) (bind _ _ _ _ ?_)
  refine wpAny_newFunctionEnv_cells S.kind kinds ?_
  intro env he s1 x
  subst he
  refine ⟨Heap.NoLimit.keeps (e0.mod.nolimit.keeps fun b o e => (e0.bs b o e).1) x.toInCall.keep, codeAny_func ?_⟩
  obtain ⟨t, ht, hrun⟩ := hb cdv A around s H vs Q E (r.deeper _) g hq
  have I := inv_start (CX := CX) (E := E) S r.hd e0 (len _ _ _ _ hq) rv x
  refine wpAny_mono (ht.run [] s1 (start N vs) H _ I hrun) ?_ (fun e s' hs => hs)
  intro fl s' hs
  cases fl with
  | ret u =>
    obtain ⟨v, σ', H', J, rv', q⟩ := hs
    exact ⟨v, H', J.os, J.bare, J.base, J.hok, rv', q⟩
  | next =>
    obtain ⟨σ', H', J, q⟩ := hs
    exact ⟨V.non, H', J.os, J.bare, J.base, J.hok, rfl, q⟩
  | brk => exact hs.elim fun _ ⟨_, _, q⟩ => q.elim
  | cont => exact hs.elim fun _ ⟨_, _, q⟩ => q.elim
/-- .. that lets no exception out -/
theorem okG {x qual : Str} {st : Stmt} {N : List Str} (F : Fun K x qual st f fd) (S : FnScope N ps (defScope st)) (len : ∀ vs H Q E, sp vs H Q E → vs.length = ps.length)
    (hb : ∀ (cdv : Value) (A : Around) (around : List Env) (s : Shared) (H : Hp) (vs : List V) (Q : VK) (E : XK), Room k (A.deeper (envOfC qual (defScope st) s.heap.objs.size f cdv)) → A.guards = some [] → sp vs H Q E →
      ∃ t, PSs (cxOf CX0 P w K mg base N qual (defScope st) f cdv A around s H E).nox (defBody st) t ∧ t { nx := fun _ H' => Q .non H', rt := Q } (start N vs) H) :
    FnG P w K mg base CX0 (k + 1) f fd ps sp :=
  bodyG F S len fun cdv A around s H vs Q E r g h => by
    obtain ⟨t, ht, q⟩ := hb cdv A around s H vs Q E r g h
    exact ⟨t, ht.nox, q⟩
end

section
variable {X : Cx} {CX : CXT} {k : Nat} {f : Addr} {fd : FuncData} {ps ks : List Str} {sp : Sp} {dvs : List V} {ds : List Value} {E : XK} {x : Str} {p pos : Pos} {e : Expr} {es : List Expr} {kws : List Keyword} {t tk : TA}
theorem endG {pins : List (Addr × Obj)} {σ : L2.St} {H : Hp} {s : Shared} {Q : VK} (hx : Passes CX X E) (I : Inv X pins σ H s) {r : Result} {s' : Shared} (h : CR CX X.stack X.prog X.w H s Q E r s') :
    (match r with
      | .ok (.ret u) => EP X pins σ Q u s'
      | .ok _ => False
      | .error z => X.xe z s') := by
  cases r with
  | error z => exact hx pins σ H s z s' I h
  | ok fl => cases fl with
    | ret u => exact I.after h
    | next => exact False.elim h
    | brk => exact False.elim h
    | cont => exact False.elim h
theorem pe_callG (F : FnG X.prog X.w X.K X.mg X.base CX k f fd ps sp) (hr : Room k X.A) (gg : X.A.guards = some []) (hg : Gl X x) (hm : X.mg x = some (.ref f)) (hk : PySem.W.keepIn X.K (.ref f) = true) (hb : Binds X.K fd ps ds) (hd : Vals dvs ds) (hx : Passes CX X E)
    (ha : PA X (e :: es) t) (hdb : (x == ("__debug__" : Str)) = false := by decide) (he : starEach (e :: es) X.env = (false, eval e X.env) :: starEach es X.env := by rfl) (hpl : (backTo pos (starEach es X.env)).any (·.1) = false := by rfl) :
    PE X (.Call (.Name x p) (e :: es) [] pos) (tCall sp dvs E t) := by
  constructor
  intro pins s σ H Q I h
  refine wpAny_Call_Name_kw (ld_glob I hg hm ?_ hdb)
  refine PySem.W.callWith_K (h₀ := X.base) I.ok.mod.kin hk (thn (ha.run pos pins s σ H _ I h) ?_) he hpl
  rintro us s1 ⟨vs, H1, I1, r, q⟩
  refine ⟨I1.kIn, ?_⟩
  have r2 := r.append hd
  have hl : (us ++ ds).length = ps.length := r2.length.symm.trans (F.len _ _ _ _ q)
  refine wpAny_call (codeAny_mono (F.go X.A X.stack s1 H1 ⟨us, []⟩ _ _ Q E hr gg I1.env0 (hb s1 us I1.kIn hl) r2 q) ?_)
  intro r s' hq
  have z := endG hx I1 hq
  cases r with
  | error _ => exact z
  | ok fl => cases fl <;> exact z
variable {g : List Value → List Value → List Value} {gV : List V → List V → List V}
theorem pe_callKG (F : FnG X.prog X.w X.K X.mg X.base CX k f fd ps sp) (hr : Room k X.A) (gg : X.A.guards = some []) (hg : Gl X x) (hm : X.mg x = some (.ref f)) (hk : PySem.W.keepIn X.K (.ref f) = true) (hb : KBinds X.K fd ps ks g gV) (hx : Passes CX X E)
    (ha : PA X (e :: es) t) (hkw : PK X kws tk) (hall : (backToKw pos (keywordEach kws X.env)).all (·.1.isSome) = true := by rfl) (hks : (backToKw pos (keywordEach kws X.env)).filterMap (·.1) = ks := by rfl)
    (hdb : (x == ("__debug__" : Str)) = false := by decide) (he : starEach (e :: es) X.env = (false, eval e X.env) :: starEach es X.env := by rfl)
    (hpl : ((backTo pos (starEach (e :: es) X.env)).any (·.1) || (backToKw pos (keywordEach kws X.env)).any (·.1.isNone)) = false := by rfl) :
    PE X (.Call (.Name x p) (e :: es) kws pos) (tCallK sp gV E t tk) := by
  constructor
  intro pins s σ H Q I h
  refine wpAny_Call_Name_kw (ld_glob I hg hm ?_ hdb)
  refine PySem.W.callWith_KW (h₀ := X.base) I.ok.mod.kin hk hall (thn (ha.run pos pins s σ H _ I h) ?_) hpl he
  rintro us s1 ⟨vs, H1, I1, r, q⟩
  refine thn (hkw.run pos pins s1 σ H1 _ I1 q) ?_
  rintro ws s2 ⟨zs, H2, I2, rz, q2⟩
  refine ⟨I2.kIn, ?_⟩
  rw [hks]
  have r2 := hb.rel r rz
  have hl : (g us ws).length = ps.length := r2.length.symm.trans (F.len _ _ _ _ q2)
  refine wpAny_call (codeAny_mono (F.go X.A X.stack s2 H2 ⟨us, ks.zip ws⟩ _ _ Q E hr gg I2.env0 (hb.to s2 us ws I2.kIn hl) r2 q2) ?_)
  intro r s' hq
  have z := endG hx I2 hq
  cases r with
  | error _ => exact z
  | ok fl => cases fl <;> exact z
end

section
variable {P : Program} {w : World} {K : PySem.W.Frag} {mg mb : Str → Option Value} {CX : CXT} {k : Nat} {fa a : Addr} {fd : FuncData} {x : Str} {sp : Sp} {s₁ : Shared} {vs : List Value} {ns : List Int}
/-- the call of the law from outside, from a heap in which at most the script is told -/
theorem lawG0 {H : Hp} (KX : K.In s₁.heap) (hns : s₁.heap.Ns mainGlobals mg) (hb : s₁.heap.Ns builtinsNs mb) (hbb : ∀ x : Str, x ≠ "__name__" → mb x = bootBuiltins x) (hlim : s₁.heap.NoLimit) (hg : s₁.gens = #[])
    (ha : s₁.heap.get? a = some { cls := .type "list", data := .seq vs.toArray }) (hr : Room k callerA)
    (F : ∀ base : Heap, K.In base → base.Ns mainGlobals mg → FnG P w K mg base CX k fa fd [x] sp) (hbind : ∀ (s : Shared) (u : Value), BindsTo s fd ⟨[u], []⟩ [(x, u)])
    (hO : Only H) (hok : HOk P w H s₁.heap) (hA : ∀ b, H b ≠ none → b = a) (hK : H a ≠ none → K.lookup a = none)
    (hsp : sp [.ref a] H (fun v _ => v = .bl true) fun _ _ _ => False) (hCX : ∀ e s', CX [] H s₁ (fun _ _ _ => False) e s' → False) :
    codeAny (model P w) callerA (.call (.ref fa) ⟨[.ref a], []⟩) (fun r s' => r = .ok (.ret (.bool true)) ∧ OldK s₁.heap s'.heap ∧ s'.os = s₁.os ∧ AllBare s'.gens) s₁ := by
  have untold : ∀ {b : Addr} {o : Obj}, s₁.heap.get? b = some o → (∀ xs n, o.data ≠ .seq xs n) ∨ K.lookup b ≠ none → H b = none := by
    intro b o e z
    cases q : H b with
    | none => rfl
    | some u =>
      have e' : b = a := hA b (by rw [q]; exact Option.some_ne_none u)
      subst e'
      rcases z with z | z
      · rw [ha] at e
        cases e
        exact absurd rfl (z _ _)
      · exact absurd (hK (by rw [q]; exact Option.some_ne_none u)) z
  have nsB : ∀ {b : Addr} {m : Str → Option Value}, s₁.heap.Ns b m → (hidT s₁.heap H).Ns b m := by
    rintro b m ⟨o, es, ep, e, d, r⟩
    exact ⟨o, es, ep, hidT_get e (untold e (.inl fun xs n z => by rw [d] at z; cases z)), d, r⟩
  have hKb : K.In (hidT s₁.heap H) := fun b o e => hidT_get (KX b o e) (untold (KX b o e) (.inr (by rw [e]; exact Option.some_ne_none o)))
  have hM : Mod K mg (hidT s₁.heap H) := ⟨hKb, nsB hns, ⟨mb, nsB hb, hbb⟩, hlim.elim fun mc z => ⟨mc, nsB z.1, z.2⟩⟩
  have e0 : Env0 P w K mg (hidT s₁.heap H) callerA [] s₁ H :=
    ⟨rfl, hM, fun b o e => of_hidT e, Nat.le_of_eq (hidT_size _ _), trivial, fun b hb => absurd hb List.not_mem_nil, hok, .of_eq hg⟩
  refine codeAny_mono ((F _ hKb (nsB hns)).go callerA [] s₁ H ⟨[.ref a], []⟩ [.ref a] [.ref a] _ _ hr rfl e0 (hbind s₁ (.ref a)) (.cons rfl .nil) hsp) ?_
  intro r s' h
  cases r with
  | error e => exact (hCX e s' h).elim
  | ok fl => cases fl with
    | next => exact False.elim h
    | brk => exact False.elim h
    | cont => exact False.elim h
    | ret u =>
      obtain ⟨v, H', os, bare, un, hok', r', q⟩ := h
      have q' : v = .bl true := q
      subst q'
      have r2 : u = Value.bool true := r'
      subst r2
      refine ⟨rfl, OldK.of_keep ?_, os, bare⟩
      intro b o e
      rcases hO b with z | ⟨ob, xs, z⟩
      · exact un.keep b o e z List.not_mem_nil List.not_mem_nil
      · obtain ⟨e1, _⟩ := hok b _ z
        obtain ⟨e2, _⟩ := hok' b _ (un.frzs b ob _ z)
        rw [e] at e1
        cases e1
        exact e2
theorem lawG (KX : K.In s₁.heap) (hns : s₁.heap.Ns mainGlobals mg) (hb : s₁.heap.Ns builtinsNs mb) (hbb : ∀ x : Str, x ≠ "__name__" → mb x = bootBuiltins x) (hlim : s₁.heap.NoLimit) (hg : s₁.gens = #[])
    (ha : s₁.heap.get? a = some { cls := .type "list", data := .seq vs.toArray }) (hi : IntsAre vs ns) (hl : ns.length ≤ sizeLine) (hr : Room k callerA)
    (F : ∀ base : Heap, K.In base → base.Ns mainGlobals mg → FnG P w K mg base CX k fa fd [x] sp) (hbind : ∀ (s : Shared) (u : Value), BindsTo s fd ⟨[u], []⟩ [(x, u)])
    (hsp : ∀ H : Hp, Only H → SqL K H a (ns.map V.int) → sp [.ref a] H (fun v _ => v = .bl true) fun _ _ _ => False) (hCX : ∀ H e s', CX [] H s₁ (fun _ _ _ => False) e s' → False) :
    codeAny (model P w) callerA (.call (.ref fa) ⟨[.ref a], []⟩) (fun r s' => r = .ok (.ret (.bool true)) ∧ OldK s₁.heap s'.heap ∧ s'.os = s₁.os ∧ AllBare s'.gens) s₁ := by
  have rv := vals_ints hi
  cases hk : K.lookup a with
  | some o =>
    have e := KX a o hk
    rw [ha] at e
    cases e
    have O : Only (fun _ => none) := fun _ => .inl rfl
    refine lawG0 (H := fun _ => none) KX hns hb hbb hlim hg ha hr F hbind O (fun b u z => nomatch z) (fun b z => absurd rfl z) (fun z => absurd rfl z) (hsp _ O (.inr ⟨_, vs.toArray, _, hk, rfl, rfl, rfl, ?_, ?_⟩)) (hCX _)
    · rw [List.size_toArray, hi.length]
      exact hl
    · rw [List.toList_toArray]
      exact rv
  | none =>
    have O : Only (upd (fun _ => none) a (.frz { cls := .type "list", data := .seq vs.toArray } (.lst (ns.map V.int)))) := fun b => by
      by_cases h : b = a
      · subst h
        exact .inr ⟨_, _, upd_same⟩
      · exact .inl (upd_ne h)
    refine lawG0 KX hns hb hbb hlim hg ha hr F hbind O (fun b u z => ?_) (fun b z => ?_) (fun _ => hk) (hsp _ O (.inl (.inr ⟨_, upd_same⟩))) (hCX _)
    · by_cases h : b = a
      · subst h
        rw [upd_same] at z
        cases z
        exact ⟨ha, by rw [List.length_map]; exact hl, vs, _, rv, ha⟩
      · rw [upd_ne h] at z
        cases z
    · by_cases h : b = a
      · exact h
      · exact absurd (upd_ne h) z
end

/-- what k_head leaves of a law, from the law's promise -/
theorem walkG {l : PySem.W.OpenLaw} {n k : Nat} {q : Program} {loose : List Str} {XP : (Str → Option Value) → Heap → Prop} {YP : World → Heap → Prop} {d : DefRec} {K : Params → PySem.W.Frag} {sp : PySem.W.Frag → Sp} {x : Str}
    (hn : l.most = some n) (hn2 : n ≤ sizeLine) (hdf : d.params.defaults = []) (hr : Room k callerA) (hY : ∀ (w : World) (h : Heap), YP w h → (K w.params).In h)
    (F : ∀ (w : World) (mg : Str → Option Value) (fa : Addr) (h : Heap), (K w.params).In h → h.Ns mainGlobals mg → mg d.name = some (.ref fa) →
      ∃ fd : FuncData, (∀ (s : Shared) (u : Value), BindsTo s fd ⟨[u], []⟩ [(x, u)]) ∧
        ∀ base : Heap, (K w.params).In base → base.Ns mainGlobals mg → FnG l.prog w (K w.params) mg base CX0 k fa fd [x] (sp (K w.params)))
    (hsp : ∀ (K : PySem.W.Frag) (H : Hp) (a : Addr) (ns : List Int), ns.length ≤ n → Only H → SqL K H a (ns.map V.int) → sp K [.ref a] H (fun v _ => v = .bl true) fun _ _ _ => False) :
    PySem.W.WalkO q loose XP YP l.row.toRowW d [] (fun f vs => PySem.call f vs) := by
  refine Att.attach_call hn hdf ?_
  intro w s₀ s₁ mg mb fa o pm cd doc a vs ns G Y ho hd hcd hmg hobj hints hlen hg
  have KX := hY w _ Y
  obtain ⟨fd, hb, hF⟩ := F w mg fa _ KX G.T.g hmg
  exact lawG KX G.T.g G.T.b G.T.builtins G.T.nolimit hg hobj hints (Nat.le_trans hlen hn2) hr hF hb (fun H hO hS => hsp _ H a ns hlen hO hS) fun H e s' z => z
end Hr

/-! Rules of my own: math.comb, repr of data, t[::-1] of a tuple, enumerate(tuple). -/
namespace Hr
open PySem PySem.Spec PyProof.Rows L2

section
variable {X : Cx}
/-! ### comb -/
def CComb (a b : Int) : Prop := 0 ≤ a ∧ 0 ≤ b ∧ b ≤ 9000 ∧ (PySem.W.mcComb a b).natAbs.log2 < bitsLine
def rComb : List V → Hp → VK → Prop := fun vs H Q => ∃ a b : Int, vs = [.int a, .int b] ∧ CComb a b ∧ Q (.int (PySem.W.mcComb a b)) H
theorem comb_gives {a b : Int} (t u : Tok) (h : CComb a b) : Gives (Builtin.«math.comb» ⟨[.int a t, .int b u], []⟩) (.int (PySem.W.mcComb a b)) := by
  obtain ⟨h0, h1, h2, hz⟩ := h
  have e1 : (9000 : Int) < Builtin.Math.maxSsize := by decide
  have e2 : (9000 : Int) < Builtin.Math.manyFactors := by decide
  by_cases c : b > a
  · rw [PySem.W.mcComb_above c]
    exact PySem.W.mc_run_comb0 a t b u (by omega) (by omega) c
  · have e : PySem.W.mcComb a b = Builtin.Math.fallingProduct a (min b (a - b)).toNat / Builtin.Math.fallingProduct (min b (a - b)) (min b (a - b)).toNat := if_neg c
    rw [e] at hz ⊢
    exact PySem.W.mc_run_comb a t b u (by omega) (by omega) c (by omega) (by omega) (by omega) hz
theorem cr_comb : CallR X (.builtin "math.comb") rComb := by
  intro pins s σ H vs us Q I r h
  obtain ⟨a, b, rfl, c, q⟩ := h
  obtain ⟨t, u, rfl⟩ := Vals.int2 r
  exact call_function_meets PySem.W.MGF.kind_comb PySem.W.MGF.plain_comb PySem.W.MGF.entry_comb (PySem.W.MGF.args_comb _ _) (comb_gives t u c).meets ⟨.int _, H, I.tok _, ⟨_, rfl⟩, q⟩

/-! ### repr of data -/
def rRepr (K : PySem.W.Frag) : List V → Hp → VK → Prop := fun vs H Q => ∃ (a : Addr) (d : PyData), vs = [.ref a] ∧ Dp K H (.ref a) d ∧ d.showable = true ∧ d.hasDict = false ∧ d.depth ≤ 40 ∧ d.shown.length ≤ sizeLine ∧ Q (.str d.shown) H
theorem cr_repr (gg : X.A.guards = some []) (hu : X.A.units + 64 < cLine) : CallR X (.builtin "repr") (rRepr X.K) := by
  intro pins s σ H vs us Q I r h
  obtain ⟨a, d, rfl, hd, hs, hn, hdep, hz, q⟩ := h
  obtain ⟨u, rfl, r1⟩ := vals1 r
  obtain ⟨as, rd⟩ := Dp.reads I d _ _ hd r1
  have e : u = .ref a := r1
  subst e
  exact repr_of_reads' rd hs (fun z => by rw [hn] at z; cases z) gg (by omega) (fun _ _ z => z) (fun h' t tk hk => ⟨.str _, H, I.kept (t' := tk) hk, ⟨t, rfl⟩, q⟩) hz
end

/-! ### t[::-1] -/
section
variable {prog : Program} {w : World} {A : Around} {E : Value → Shared → Prop} {s : Shared}
theorem places_back (n : Nat) : Builtin.Slice.slicePlaces ((n : Int) - 1) (-1) (-1) = n := by
  unfold Builtin.Slice.slicePlaces
  rw [if_neg (by decide)]
  by_cases h : (n : Int) - 1 > -1
  · rw [if_pos h]
    have e : ((n : Int) - 1 - -1 - 1) / (- -1) = (n : Int) - 1 := by
      have e0 : (- -1 : Int) = 1 := by decide
      rw [e0, Int.ediv_one]
      omega
    rw [e]
    omega
  · rw [if_neg h]
    omega
theorem applied_back {sl : Addr} {vs : Value} {n : Nat} {Q : Int × Int × Nat → Shared → Prop} (hs : s.heap.IsSliceOf sl .none .none vs) (ps : IsPart vs (some (-1)))
    (h : Q ((n : Int) - 1, -1, n) s) : wpAny (model prog w) A (Builtin.Slice.sliceApplied (.ref sl) (pure (n : Int))) Q E s := by
  obtain ⟨o, ho, hc, hd⟩ := id hs
  unfold Builtin.Slice.sliceApplied Builtin.Slice.sliceFields
  refine wpAny_bind (wpAny_bind (wpAny_field ho hd (x := .none) rfl (wpAny_bind (wpAny_field ho hd (x := .none) rfl (wpAny_bind (wpAny_field ho hd (x := vs) rfl (wpAny_pure ?_)))))))
  refine wpAny_bind (HT.slicePart_ ps ?_)
  show wpAny _ _ (if ((-1 : Int) == 0) = true then _ else _) _ _ s
  rw [if_neg (by decide)]
  refine wpAny_bind (HT.slicePart_ IsPart.none (wpAny_bind (HT.slicePart_ IsPart.none (wpAny_bind (wpAny_pure ?_)))))
  show wpAny _ _ (pure ((n : Int) - 1, (-1 : Int), Builtin.Slice.slicePlaces ((n : Int) - 1) (-1) (-1))) _ _ s
  rw [places_back]
  exact wpAny_pure h
theorem pick_back (xs : Array Value) : ((List.range xs.size).filterMap fun (k : Nat) => xs[((xs.size : Int) - 1 + (k : Int) * -1).toNat]?).toArray = xs.toList.reverse.toArray := by
  congr 1
  apply List.ext_getElem?
  intro i
  have e : (List.range xs.size).filterMap (fun (k : Nat) => xs[((xs.size : Int) - 1 + (k : Int) * -1).toNat]?) = (List.range xs.size).map (fun k => xs.getD (xs.size - 1 - k) .none) := by
    have gen : ∀ l : List Nat, (∀ k ∈ l, k < xs.size) → l.filterMap (fun (k : Nat) => xs[((xs.size : Int) - 1 + (k : Int) * -1).toNat]?) = l.map (fun k => xs.getD (xs.size - 1 - k) .none) := by
      intro l
      induction l with
      | nil => intro _; rfl
      | cons k l ih =>
        intro hl
        have hk' : k < xs.size := hl k List.mem_cons_self
        have e1 : ((xs.size : Int) - 1 + (k : Int) * -1).toNat = xs.size - 1 - k := by omega
        have h2 : xs.size - 1 - k < xs.size := by omega
        have e2 : xs[((xs.size : Int) - 1 + (k : Int) * -1).toNat]? = some (xs.getD (xs.size - 1 - k) .none) := by
          rw [e1]
          simp [Array.getD, h2]
        rw [List.filterMap_cons_some (f := fun (k : Nat) => xs[((xs.size : Int) - 1 + (k : Int) * -1).toNat]?) e2, ih fun j hj => hl j (List.mem_cons_of_mem _ hj)]
        rfl
    exact gen _ fun k hk => List.mem_range.mp hk
  rw [e, List.getElem?_map]
  by_cases h : i < xs.size
  · have h2 : xs.size - 1 - i < xs.size := by omega
    rw [List.getElem?_range h, List.getElem?_reverse (by simpa using h)]
    simp [Array.getD, h2]
  · rw [List.getElem?_eq_none (by simpa using h), List.getElem?_eq_none (by simpa using h)]
    rfl
theorem getItem_back {t sl : Addr} {items : Array Value} {vs : Value} {Q : Value → Shared → Prop} (ht : IsTup s.heap t items) (hs : s.heap.IsSliceOf sl .none .none vs) (ps : IsPart vs (some (-1)))
    (h : Q (.ref s.heap.objs.size) { s with heap := s.heap.push { cls := .type "tuple", data := .seq items.toList.reverse.toArray } })
    (hsz : items.size ≤ sizeLine) : wpAny (model prog w) A (getItem (.ref t) (.ref sl)) Q E s := by
  have fits : sizeOk (.seq items.toList.reverse.toArray) := by
    show items.toList.reverse.toArray.size ≤ sizeLine
    rw [List.size_toArray, List.length_reverse, Array.length_toList]
    exact hsz
  obtain ⟨o, ho, hc, hd⟩ := id hs
  have hT : s.TypeIs (.ref sl) "slice" := ⟨o, ho, hc⟩
  unfold getItem
  try with_reducible refine wpAny_holding ?_
  first | refine wpAny_bind (wpAny_pure ?_) | skip
  refine wpAny_bind (wpAny_sequenceKey ht.typeIs (by decide) ?_)
  refine wpAny_bind (wpAny_callSpecial?_slot (name := Str.ofString "__getitem__") ht.typeIs PyProof.Rows.slot_tuple_getitem
    (wpAny_call_entry PyProof.Rows.slot_tuple_getitem ht.typeIs PyProof.Rows.entry_tuple_getitem ?_ (PyProof.Rows.args_tuple_getitem _ _)))
  show wpAny _ _ (Builtin.Tuple.tupleItemsOf (.ref t) >>= _) _ _ s
  refine wpAny_bind (PyProof.Rows.tupleItemsOf_ ht (wpAny_bind (wpAny_typeOf hT ?_)))
  rw [if_pos (by decide)]
  refine wpAny_bind (applied_back hs ps ?_)
  have no : ¬ (((items.size : Int) - 1 == 0 && (-1 : Int) == 1 && items.size == items.size) = true) := by
    rw [show ((-1 : Int) == 1) = false from rfl, Bool.and_false, Bool.false_and]
    exact Bool.false_ne_true
  show wpAny _ _ (if ((items.size : Int) - 1 == 0 && (-1 : Int) == 1 && items.size == items.size) = true then _ else _) _ _ s
  rw [if_neg no, pick_back]
  first
    | exact wpAny_bind (m := Builtin.Tuple.tupleExact _) (wpAny_newObj_type (wpAny_pure ⟨_, rfl, wpAny_pure h⟩) fits)
    | exact wpAny_bind (m := Builtin.Tuple.tupleExact _) (wpAny_newObj_type (wpAny_bind (wpAny_pure (wpAny_pure ⟨_, rfl, wpAny_pure h⟩))) fits)
    | exact wpAny_bind (wpAny_bind (m := Builtin.Tuple.tupleExact _) (wpAny_newObj_type (wpAny_pure (wpAny_pure ⟨_, rfl, wpAny_pure h⟩)) fits))
    | exact wpAny_bind (wpAny_bind (m := Builtin.Tuple.tupleExact _) (wpAny_newObj_type (wpAny_pure ⟨_, rfl, wpAny_pure h⟩) fits))
end
def tRevT (K : PySem.W.Frag) (te : TE) : TE := fun σ H Q => te σ H fun x H1 => ∃ a xs, x = .ref a ∧ SqT K H1 a xs ∧ ∀ p, H1 p = none → Q (.ref p) (upd H1 p (.tup xs.reverse))
theorem pe_revT {X : Cx} {e : Expr} {te : TE} {k : Nat} {p1 p2 p3 pos : Pos} (he : PE X e te) : PE X (.Subscript e (.Slice none none (some (.UnaryOp .USub (.Constant (.int 1) k p1) p2)) p3) pos) (tRevT X.K te) := by
  constructor
  intro pins s σ H Q I h
  refine Subscript_ (thn (he.run pins s σ H _ I h) ?_)
  rintro v s1 ⟨x, H1, I1, r1, a, xs, rfl, hx, q⟩
  cases r1
  have hst : PO X (some (.UnaryOp .USub (.Constant (.int 1) k p1) p2)) (tPart (tUn (rU fun i => .int (-i)) (tC (.int 1)))) := po_some (pe_un un_neg pe_int)
  refine wpAny_Slice (thn (po_none.run pins s1 σ H1 (fun o H2 => o = none ∧ H2 = H1) I1 ⟨rfl, rfl⟩) ?_)
  rintro vl s2 ⟨l, H2, I2, pl, rfl, rfl⟩
  cases pl
  refine thn (po_none.run pins s2 σ H2 (fun o H3 => o = none ∧ H3 = H2) I2 ⟨rfl, rfl⟩) ?_
  rintro vu s3 ⟨u, H3, I3, pu, rfl, rfl⟩
  cases pu
  refine thn (hst.run pins s3 σ H3 (fun o H4 => o = some (-1) ∧ H4 = H3) I3 ⟨1, rfl, -1, rfl, rfl, rfl⟩) ?_
  rintro vs s4 ⟨o, H4, I4, ps, rfl, rfl⟩
  have I5 : Inv X pins σ H4 { s4 with heap := s4.heap.push { cls := .type "slice", data := .fields #[.none, .none, vs] } } := I4.kept (t' := s4.toks) fun b ob q => Heap.get?_push_of_some _ q
  obtain ⟨its, r, ht, hz⟩ := I5.tuple hx
  have hlen := r.length
  show wpAny (model X.prog X.w) X.A (subscriptTail e (.Slice none none (some (.UnaryOp .USub (.Constant (.int 1) k p1) p2)) p3) (.ref a) (.ref s4.heap.objs.size)) (EP X pins σ Q) X.xe _
  refine tail_any (ops := [.ref a, .ref s4.heap.objs.size]) ht.typeIs (PyProof.Rows.slot_tuple_getitem.lookup) ?_ (by with_unfolding_all rfl)
  refine getItem_back ht (Heap.IsSliceOf.new _ .none .none vs) ps ?_ (by rw [List.size_toArray]; omega)
  refine ⟨.ref _, _, I5.laid (t' := s4.toks) (o := .tup xs.reverse) (fun b ob q => Heap.get?_push_of_some _ q) (Nat.le_refl _) ?_, rfl, q _ (I5.hok.fresh (Nat.le_refl _))⟩
  exact ⟨by rw [List.length_reverse]; exact hz, _, r.reverse, IsTup.new _ _⟩

/-! ### enumerate(tuple) -/
theorem enum_new1 {v : Value} {o : Obj} {H : Heap → Prop} (B : Begins v o H) :
    Meets (Builtin.«enumerate.__new__» ⟨[.type "enumerate", v], []⟩) (fun _ R s => H s.heap ∧
      R (.ok (.ret (.ref (s.heap.push o).objs.size))) { s with heap := (s.heap.push o).push { cls := .type "enumerate", data := .fields #[.none, .bool false, .ref s.heap.objs.size, rawInt 0, .none, .none] } }) :=
  .of_wp fun prog w A R s h => by
    obtain ⟨hp, g, d, tk, os⟩ := s
    obtain ⟨h1, h⟩ := h
    have sub := sub_enumerate
    have go : ∀ {A' : Around} {E : Value → Shared → Prop} {Q : Value → Shared → Prop}, Q (.ref hp.objs.size) ⟨hp.push o, g, d, tk, os⟩ → wpAny (model prog w) A' (pyIter v) Q E ⟨hp, g, d, tk, os⟩ :=
      fun q => B.iter prog w _ _ ⟨hp, g, d, tk, os⟩ _ h1 q
    wp_walk using go
    refine wpAny_stack_any fun st => wpAny_pure ?_
    split
    · rename_i c _ _ _ _ _
      cases (c == Value.type "enumerate") <;> (wp_walk using go; exact ⟨_, rfl, h⟩)
    · wp_walk using go
      exact ⟨_, rfl, h⟩
theorem enum_begins1 {prog : Program} {w : World} {A : Around} {E : Value → Shared → Prop} {s : Shared} {v : Value} {o : Obj} {H : Heap → Prop} {Q : Value → Shared → Prop} (B : Begins v o H) (h1 : H s.heap)
    (h : ∀ h', IsEnum h' (s.heap.objs.size + 1) s.heap.objs.size 0 .none → h'.get? s.heap.objs.size = some o → (∀ b o, s.heap.get? b = some o → h'.get? b = some o) → Q (.ref (s.heap.objs.size + 1)) { s with heap := h' }) :
    wpAny (model prog w) A (call (.type "enumerate") [v]) Q E s := by
  have hz : (s.heap.push o).objs.size = s.heap.objs.size + 1 := Heap.size_push ..
  refine callType_new F.called_enumerate (by decide) (F.typeCall_enumerate_1 _) (F.newCall_enumerate_1 _) (fun obj => F.args_object_init_2 obj _) F.entry_enumerate_new (enum_new1 B) ⟨h1, ?_⟩
  show _ ∧ _
  rw [hz]
  have he : IsEnum ((s.heap.push o).push { cls := .type "enumerate", data := .fields #[.none, .bool false, .ref s.heap.objs.size, rawInt 0, .none, .none] }) (s.heap.objs.size + 1) s.heap.objs.size 0 .none := by
    have z := Heap.get?_push_size (s.heap.push o) (o := { cls := .type "enumerate", data := .fields #[.none, .bool false, .ref s.heap.objs.size, rawInt 0, .none, .none] }) rfl
    rw [hz] at z
    exact z
  exact ⟨⟨_, he, rfl⟩, h _ he (Heap.get?_push_of_some _ (Heap.get?_push_size _ B.free)) fun b ob x => Heap.get?_push_of_some _ (Heap.get?_push_of_some _ x)⟩

/-- the tuple at a: each item in a new pair -/
def Itn (K : PySem.W.Frag) (a : Addr) : It where
  go i H := ∃ (xs : List V) (x : V), SqT K H a xs ∧ xs[i]? = some x
  yld i H v H' := ∃ T x, v = .ref T ∧ H T = none ∧ H' = upd H T (.tup [.int (i : Nat), x]) ∧ ∀ xs, SqT K H a xs → xs[i]? = some x
  stop i H := ∃ xs : List V, SqT K H a xs ∧ xs.length = i
theorem turn_enumT {P : Program} {w : World} {K : PySem.W.Frag} {elts : List Expr} {kk : Nat} {tpos : Pos} (a e it : Addr) :
    Turn P w K (.Tuple elts kk tpos) (Itn K a) [e, it] e (fun i h => (∃ old, IsEnum h e it ((i : Nat) : Int) old) ∧ h.IsTupleIter it a i ∧ e ≠ it ∧ a ≠ it ∧ e ≠ a) where
  mem := List.mem_cons_self
  obj := by
    rintro i h ⟨⟨old, he⟩, ⟨o, ho, hc, hd⟩, _⟩ b hb
    rcases List.mem_cons.mp hb with rfl | hb
    · exact ⟨_, he, fun v q => nomatch q⟩
    · cases List.mem_singleton.mp hb
      exact ⟨o, ho, fun v q => by rw [hd] at q; cases q⟩
  keep := by
    rintro i h h' ⟨⟨old, he⟩, hi, hr⟩ k
    exact ⟨⟨old, k e List.mem_cons_self _ he⟩, hi.at fun o q => k it (List.mem_cons_of_mem _ List.mem_cons_self) o q, hr⟩
  item := by
    intro X hP hw hK hc i pins s σ H E I hf st hg
    subst hP hw hK
    obtain ⟨⟨old, he⟩, hit, hne, hai, hea⟩ := st
    obtain ⟨xs, x, hq, hx⟩ := hg
    obtain ⟨its, rv, p, hz⟩ := I.tuple hq
    obtain ⟨u, hu, ru⟩ := rv.get hx
    have hlt : i < its.toArray.size := by
      rw [List.size_toArray]
      exact (List.getElem?_eq_some_iff.mp hu).1
    have hel : e < s.heap.objs.size := Heap.lt_size he
    have hil : it < s.heap.objs.size := hit.elim fun _ z => Heap.lt_size z.1
    have D := Draws.tuple (prog := X.prog) (w := X.w) (A := X.A.in1) (I.ok.hd hc) it a hai its.toArray
    refine wpAny_pyNext_enum_itemD D he ⟨hit, p⟩ hlt hne (fun z => ?_) fun y h' tk hy ho hst hT hsz hk => ?_
    · rcases List.mem_cons.mp z with z | z
      · exact hne z
      · exact hea (List.mem_singleton.mp z)
    have ey : y = u := by
      have e1 : its.toArray[i]? = some u := by simpa using hu
      exact Option.some.inj (hy.symm.trans e1)
    subst ey
    refine ⟨_, rfl, wpAny_letOwnedTupleGo_enum (s := { s with heap := h', toks := tk + 1 }) ho fun h'' he' sb => ?_⟩
    have hT2 : h''.get? s.heap.objs.size = some { cls := .type "tuple", data := .seq #[.int i tk, y] } := (sb.2 _ (Nat.ne_of_gt hel)).trans hT
    have new : ObjOk X.prog X.w (upd H s.heap.objs.size (.tup [.int (i : Nat), x])) h'' s.heap.objs.size (.tup [.int (i : Nat), x]) :=
      ⟨by show 2 ≤ sizeLine; decide, [.int i tk, y], .cons ⟨_, rfl⟩ (.cons ru .nil), ⟨_, hT2, rfl, _, rfl⟩⟩
    have I1 : Inv X pins σ (upd H s.heap.objs.size (.tup [.int (i : Nat), x])) { s with heap := h'', toks := tk + 1 } :=
      I.turnedNew (ch := [e, it]) (fun b ob hb q => (sb.2 b (fun z => hb (z ▸ List.mem_cons_self))).trans
        (hk b ob (fun z => hb (z ▸ List.mem_cons_self)) (fun z => hb (z ▸ List.mem_cons_of_mem _ List.mem_cons_self)) q)) hf (Nat.le_refl _) new
    refine ⟨.ref s.heap.objs.size, _, I1, rfl, ⟨_, x, rfl, I.hok.fresh (Nat.le_refl _), rfl, fun ys hy => ?_⟩, ⟨⟨y, ?_⟩, hst.1.at fun o q => (sb.2 it (Ne.symm hne)).trans q, hne, hai, hea⟩, fun b hb => ?_⟩
    · rw [I.tuple_inj hy hq]
      exact hx
    · have e1 : ((i + 1 : Nat) : Int) = (i : Int) + 1 := by omega
      rw [e1]
      exact he'
    · have hb' : b < s.heap.objs.size := by
        rcases List.mem_cons.mp hb with rfl | hb
        · exact hel
        · cases List.mem_singleton.mp hb
          exact hil
      rw [upd_ne (Nat.ne_of_lt hb')]
      exact (hf b hb).1
  done := by
    intro X hP hw hK hc i pins s σ H E I hf st hg
    subst hP hw hK
    obtain ⟨⟨old, he⟩, hit, hne, hai, hea⟩ := st
    obtain ⟨xs, hq, hx⟩ := hg
    obtain ⟨its, rv, p, hz⟩ := I.tuple hq
    obtain ⟨f0, f1, f2, f3, f4, f5⟩ := hf it (List.mem_cons_of_mem _ List.mem_cons_self)
    have hl : i = its.toArray.size := by
      rw [List.size_toArray, ← rv.length]
      exact hx.symm
    subst hl
    have D := Draws.tuple (prog := X.prog) (w := X.w) (A := X.A.in1) (I.ok.hd hc) it a hai its.toArray
    exact wpAny_pyNext_enum_endD D he ⟨hit, p⟩ fun h' eb => ⟨rfl, I.turned (t' := s.toks) (fun b o hb q => eb b o hb q) f0 f1 f3 f4 f5⟩
  self := by
    rintro A i s Q E ⟨⟨_, he⟩, _⟩ h
    exact wpAny_pyIter_enum he h
def iEnumT (K : PySem.W.Frag) (ta : TA) : TI := fun σ H R => ta σ H fun vs H1 => ∃ a xs, vs = [.ref a] ∧ SqT K H1 a xs ∧ R (Itn K a) H1
theorem pi_enumT {X : Cx} {e : Expr} {ta : TA} {p pos tpos : Pos} {elts : List Expr} {kk : Nat} (hg : Gl X "enumerate") (hm : X.mg "enumerate" = none) (ha : PA X [e] ta) (hs : starEach [e] X.env = [(false, eval e X.env)] := by rfl) :
    PI X (.Tuple elts kk tpos) (.Call (.Name "enumerate" p) [e] [] pos) (iEnumT X.K ta) := by
  constructor
  intro pins s σ H R I h
  refine Call_ (ld_blt I hg hm boot_enumerate (PyProof.Rows.callWith_type1 (thn (ha.run pos pins s σ H _ I h) ?_) hs rfl))
  rintro us s1 ⟨vs, H1, I1, r1, a, xs, rfl, hq, q⟩
  obtain ⟨u, rfl, r⟩ := vals1 r1
  have eu : u = .ref a := r
  subst eu
  obtain ⟨its, rv, p', hz⟩ := I1.tuple hq
  have hal : a < s1.heap.objs.size := p'.lt
  refine enum_begins1 (begins_tuple a its.toArray) p' fun h' he hit hk => wpAny_pyIter_enum he ?_
  have I2 : Inv X pins σ H1 { s1 with heap := h' } := I1.kept (t' := s1.toks) hk
  refine ⟨s1.heap.objs.size + 1, [s1.heap.objs.size + 1, s1.heap.objs.size], _, _, H1, rfl, I2, turn_enumT a (s1.heap.objs.size + 1) s1.heap.objs.size,
    ⟨⟨.none, he⟩, ⟨_, hit, rfl, rfl⟩, Nat.succ_ne_self _, Nat.ne_of_lt hal, Nat.ne_of_gt (Nat.lt_succ_of_lt hal)⟩, fun b hb => ?_, q⟩
  have hle : s1.heap.objs.size ≤ b := by
    rcases List.mem_cons.mp hb with rfl | hb
    · exact Nat.le_add_right _ _
    · cases List.mem_singleton.mp hb
      exact Nat.le_refl _
  exact I1.fpOk hle (I1.hok.fresh hle)
theorem walk_enumT {K : PySem.W.Frag} {a : Addr} {xs : List V} : Walk (Itn K a) xs.length (fun H => SqT K H a xs) (YPair (fun i => some (.int (i : Nat))) (fun i => xs[i]?)) where
  goes := fun i H hi h => ⟨xs, xs[i], h, List.getElem?_eq_getElem hi⟩
  stops := fun H h => ⟨xs, h, rfl⟩
  yields := by
    rintro i H v H' hi h ⟨T, x, rfl, nT, rfl, f⟩
    exact ⟨T, _, x, rfl, nT, rfl, rfl, f xs h⟩
end Hr

namespace Hr
open PySem PySem.Spec PyProof.Rows L2
section
variable {X : Cx} {CX : CXT} {k : Nat} {f : Addr} {fd : FuncData} {ps ks : List Str} {sp : Sp} {E : XK} {x : Str} {p pos : Pos} {kws : List Keyword} {tk : TA} {g : List Value → List Value → List Value} {gV : List V → List V → List V}
/-- a call whose arguments are all passed by name -/
def tCallN (sp : Sp) (gV : List V → List V → List V) (E : XK) (tk : TA) : TE := fun σ H Q => tk σ H fun zs H2 => sp (gV [] zs) H2 Q E
theorem pe_callK0G (F : FnG X.prog X.w X.K X.mg X.base CX k f fd ps sp) (hr : Room k X.A) (gg : X.A.guards = some []) (hg : Gl X x) (hm : X.mg x = some (.ref f)) (hk : PySem.W.keepIn X.K (.ref f) = true) (hb : KBinds X.K fd ps ks g gV) (hx : Passes CX X E)
    (hkw : PK X kws tk) (hall : (backToKw pos (keywordEach kws X.env)).all (·.1.isSome) = true := by rfl) (hks : (backToKw pos (keywordEach kws X.env)).filterMap (·.1) = ks := by rfl)
    (hdb : (x == ("__debug__" : Str)) = false := by decide)
    (hpl : ((backTo pos (starEach [] X.env)).any (·.1) || (backToKw pos (keywordEach kws X.env)).any (·.1.isNone)) = false := by rfl) :
    PE X (.Call (.Name x p) [] kws pos) (tCallN sp gV E tk) := by
  constructor
  intro pins s σ H Q I h
  refine wpAny_Call_Name_kw (ld_glob I hg hm ?_ hdb)
  refine PySem.W.callWith_KW0 (h₀ := X.base) I.ok.mod.kin hk hall (thn (hkw.run pos pins s σ H _ I h) ?_) hpl
  rintro ws s2 ⟨zs, H2, I2, rz, q2⟩
  refine ⟨I2.kIn, ?_⟩
  rw [hks]
  have r2 := hb.rel (vs := []) (us := []) .nil rz
  have hl : (g [] ws).length = ps.length := r2.length.symm.trans (F.len _ _ _ _ q2)
  refine wpAny_call (codeAny_mono (F.go X.A X.stack s2 H2 ⟨[], ks.zip ws⟩ _ _ Q E hr gg I2.env0 (hb.to s2 [] ws I2.kIn hl) r2 q2) ?_)
  intro r s' hq
  have z := endG hx I2 hq
  cases r with
  | error _ => exact z
  | ok fl => cases fl <;> exact z
theorem pe_callK0 (F : FnOk X.prog X.w X.K X.mg X.base CX k f fd ps sp) (hr : Room k X.A) (hg : Gl X x) (hm : X.mg x = some (.ref f)) (hk : PySem.W.keepIn X.K (.ref f) = true) (hb : KBinds X.K fd ps ks g gV) (hx : Passes CX X E)
    (hkw : PK X kws tk) (hall : (backToKw pos (keywordEach kws X.env)).all (·.1.isSome) = true := by rfl) (hks : (backToKw pos (keywordEach kws X.env)).filterMap (·.1) = ks := by rfl)
    (hdb : (x == ("__debug__" : Str)) = false := by decide)
    (hpl : ((backTo pos (starEach [] X.env)).any (·.1) || (backToKw pos (keywordEach kws X.env)).any (·.1.isNone)) = false := by rfl) :
    PE X (.Call (.Name x p) [] kws pos) (tCallN sp gV E tk) := by
  constructor
  intro pins s σ H Q I h
  refine wpAny_Call_Name_kw (ld_glob I hg hm ?_ hdb)
  refine PySem.W.callWith_KW0 (h₀ := X.base) I.ok.mod.kin hk hall (thn (hkw.run pos pins s σ H _ I h) ?_) hpl
  rintro ws s2 ⟨zs, H2, I2, rz, q2⟩
  refine ⟨I2.kIn, ?_⟩
  rw [hks]
  exact run_fnk F hr hb hx I2 (vs := []) (us := []) .nil rz q2
end
/-- two arguments by name, the second one first -/
def sw2 {α : Type} (us ws : List α) : List α := match us, ws with
  | [], [a, b] => [b, a]
  | _, _ => []
theorem sw2_rel {vs : List V} {us : List Value} {zs : List V} {ws : List Value} (r : Vals vs us) (q : Vals zs ws) : Vals (sw2 vs zs) (sw2 us ws) := by
  cases r with
  | cons _ _ => exact .nil
  | nil =>
    cases q with
    | nil => exact .nil
    | cons q1 q =>
      cases q with
      | nil => exact .nil
      | cons q2 q =>
        cases q with
        | nil => exact .cons q2 (.cons q1 .nil)
        | cons _ _ => exact .nil
theorem sw2_binds {K : PySem.W.Frag} {x qual : Str} {st : Stmt} {f : Addr} {fd : FuncData} {p1 p2 : Str} (F : Fun K x qual st f fd)
    (h : ∀ (kV doc pm : Value) (an : Option Addr) (cdv ct a b : Value), bindArgs (PySem.W.fnOf x qual (defArgs st) (defBody st) (defScope st) .none kV doc pm an cdv ct) ⟨[], [(p2, a), (p1, b)]⟩ = pure [(p1, b), (p2, a)]) :
    KBinds K fd [p1, p2] [p2, p1] sw2 sw2 := by
  obtain ⟨oc, od, kV, doc, pm, an, cdv, ct, osl, rfl, lk, hcd⟩ := F.ex
  refine ⟨fun s us ws _ hl => ?_, sw2_rel⟩
  match us, ws, hl with
  | [], [a, b], _ => exact .of_eq (h kV doc pm an cdv ct a b)
  | _ :: _, _, hl => exact absurd hl (by intro z; cases z)
  | [], [], hl => exact absurd hl (by intro z; cases z)
  | [], [_], hl => exact absurd hl (by intro z; cases z)
  | [], _ :: _ :: _ :: _, hl => exact absurd hl (by intro z; cases z)
end Hr
namespace Hr
open PySem PySem.Spec PyProof.Rows L2 Evl
section
variable {K : PySem.W.Frag} {σ : L2.St} {H : Hp}
theorem Cw.more {H H1 H2 : Hp} {f : Nat → Bool} {v : Nat → V} {D : Addr} {i : Nat} (p : Cw H f v D i H1) (e : Ex H1 H2) : Cw H f v D i H2 := ⟨p.1, p.2.1.trans e, e D _ p.2.2⟩
/-- a comprehension over anything that is walked -/
theorem el_lcW {J : It} {n : Nat} {G : Hp → Prop} {Y : Nat → Hp → V → Hp → Prop} {wi : TI} {g : TG} {tt : TT} {te : TE} {vs : List Nat} (wk : Walk J n G Y) (f : Nat → Bool) (v : Nat → V) (hz : n ≤ 40000)
    (hi : ∀ H1, Ex H H1 → ∀ R : It → Hp → Prop, (∀ H2, Ex H1 H2 → R J H2) → wi σ H1 R) (hG : ∀ H1, Ex H H1 → G H1) (hY : ∀ i H1 x H2, Y i H1 x H2 → Ex H1 H2)
    (hs : ∀ i x H1 H2, i < n → Ex H H1 → Y i H1 x H2 → ∃ σ2, (∀ k : L2.St → Hp → Prop, k σ2 H2 → g x (wipe σ vs) H2 k) ∧ wipe σ2 vs = wipe σ vs ∧ EvT tt σ2 H2 (f i) ∧ (f i = true → Ev te σ2 H2 (v i))) :
    EvL (tLc wi g tt te vs) σ H (given n f v) := fun H0 e Q q => hi H0 e _ fun H1 e1 D hD => by
  refine lc_it wk (fun i H2 => Cw H1 f v D i H2) ⟨hD, Ex.new hD, upd_same⟩ (fun i H2 _ p => hG H2 ((e.trans e1).trans p.2.1)) (fun i x H2 H3 hi p y => ?_) (fun H2 p => q D H2 (fresh_back e1 p.1) (e1.trans p.2.1) p.2.2)
  have e3 := hY i H2 x H3 y
  obtain ⟨σ2, hk, hw, ht, he⟩ := hs i x H2 H3 hi ((e.trans e1).trans p.2.1) y
  refine hk _ ⟨hw, ?_⟩
  obtain ⟨p1, p2, p3⟩ := Hr.Cw.more p e3
  refine ht H3 (Ex.refl H3) _ fun H4 e4 => ?_
  cases hf : f i with
  | true =>
    show te σ2 H4 _
    refine he hf H4 e4 _ fun H5 e5 => ⟨given i f v, e5 D _ (e4 D _ p3), sz_lt (by have := given_len i f v; omega), p1, Ex.mut ((p2.trans e4).trans e5) p1, ?_⟩
    rw [given_yes hf]
    exact upd_same
  | false =>
    refine ⟨p1, p2.trans e4, ?_⟩
    rw [given_no hf]
    exact e4 D _ p3
theorem given_all (n : Nat) (v : Nat → V) : given n (fun _ => true) v = (List.range n).map v := by
  unfold given
  rw [List.filter_eq_self.mpr fun _ _ => rfl]
theorem given_none {n : Nat} {f : Nat → Bool} (v : Nat → V) (h : ∀ i, i < n → f i = false) : given n f v = [] := by
  unfold given
  rw [List.filter_eq_nil_iff.mpr fun i hi => by rw [h i (List.mem_range.mp hi)]; exact Bool.false_ne_true]
  rfl
theorem et_yes : EvT tYes σ H true := fun H1 _ _ q => q H1 (Ex.refl H1)
end
end Hr
namespace Hr
open PySem PySem.Spec PyProof.Rows L2 Evl
section
variable {σ : L2.St} {H : Hp} {Q : VK} {te ta tb : TE} {tr : TA} {D : Ends} {r : List V → Hp → VK → Prop} {q : R2} {tu tw : TS} {t : TT} {i : Nat}
theorem r_ret (h : te σ H D.rt) : tRet te D σ H := h
theorem r_cb (h : tr σ H fun vs H1 => r vs H1 Q) : tCB r tr σ H Q := h
theorem r_arg {Q : List V → Hp → Prop} (h : te σ H fun x H1 => tr σ H1 fun xs H2 => Q (x :: xs) H2) : tCons te tr σ H Q := h
theorem r_seq (h : tu { D with nx := tw D } σ H) : tSeq tu tw D σ H := h
theorem r_set (h : te σ H fun x H1 => D.nx (σ.set i (some x)) H1) : tAsg te (gName i) D σ H := h
theorem r_if (h : t σ H fun b H1 => if b = true then tu D σ H1 else tw D σ H1) : tIfS t tu tw D σ H := h
theorem r_op (h : ta σ H fun x H1 => tb σ H1 fun y H2 => q x y H2 Q) : tOp q ta tb σ H Q := h
theorem r_test {Q : Bool → Hp → Prop} (h : te σ H fun x H' => ∃ k, x = .bl k ∧ Q k H') : tTest te σ H Q := h
theorem r_B {Q : Bool → Hp → Prop} (h : te σ H fun x H' => ∃ k, x = .bl k ∧ Q k H') : tB te σ H Q := h
end
end Hr
namespace Hr
open PySem L2
theorem r_yes {σ : L2.St} {H : Hp} {Q : Bool → Hp → Prop} (h : Q true H) : tYes σ H Q := h
end Hr

/-! The mathematics of cascades, in plain Lean. -/
namespace HrM
open PySem

/-- how many sets of k of n things -/
def ch : Nat → Nat → Nat
  | _, 0 => 1
  | 0, _ + 1 => 0
  | n + 1, k + 1 => ch n k + ch n (k + 1)
theorem ch_zero (n : Nat) : ch n 0 = 1 := by cases n <;> rfl
theorem ch_succ (n k : Nat) : ch (n + 1) (k + 1) = ch n k + ch n (k + 1) := rfl
theorem ch_none (k : Nat) : ch 0 (k + 1) = 0 := rfl
theorem ch_lt : ∀ {n k : Nat}, n < k → ch n k = 0
  | _, 0, h => absurd h (Nat.not_lt_zero _)
  | 0, _ + 1, _ => rfl
  | n + 1, k + 1, h => by rw [ch_succ, ch_lt (by omega : n < k), ch_lt (by omega : n < k + 1)]
theorem ch_self : ∀ n : Nat, ch n n = 1
  | 0 => rfl
  | n + 1 => by rw [ch_succ, ch_self n, ch_lt (Nat.lt_succ_self n)]
theorem ch_pos : ∀ {n k : Nat}, k ≤ n → 1 ≤ ch n k
  | n, 0, _ => by rw [ch_zero]; exact Nat.le_refl 1
  | 0, _ + 1, h => absurd h (by omega)
  | n + 1, k + 1, h => by
    have := ch_pos (n := n) (k := k) (by omega)
    rw [ch_succ]
    omega
theorem ch_step (n : Nat) : ∀ k : Nat, ch n k ≤ ch (n + 1) k
  | 0 => by rw [ch_zero, ch_zero]; exact Nat.le_refl 1
  | k + 1 => by rw [ch_succ]; omega
theorem ch_mono {a b : Nat} (k : Nat) (h : a ≤ b) : ch a k ≤ ch b k := by
  induction h with
  | refl => exact Nat.le_refl _
  | step _ ih => exact Nat.le_trans ih (ch_step _ k)
theorem ch_one (n : Nat) : ch n 1 = n := by
  induction n with
  | zero => rfl
  | succ n ih =>
    have e := ch_succ n 0
    rw [ch_zero] at e
    rw [e, ih]
    omega
theorem ch_mul : ∀ n k : Nat, ch n (k + 1) * (k + 1) = ch n k * (n - k)
  | 0, 0 => rfl
  | 0, k + 1 => by rw [ch_none, ch_none, Nat.zero_mul, Nat.zero_mul]
  | n + 1, 0 => by
    rw [ch_zero]
    have := ch_one (n + 1)
    rw [show (0 + 1 : Nat) = 1 from rfl, this]
    omega
  | n + 1, k + 1 => by
    have h1 := ch_mul n (k + 1)
    have h2 := ch_mul n k
    rw [ch_succ n (k + 1), ch_succ n k, Nat.add_mul, Nat.add_mul, h1]
    have e0 : n + 1 - (k + 1) = n - k := by omega
    rw [e0, ← h2]
    by_cases h : k + 1 ≤ n
    · have e1 : ch n (k + 1) * (k + 1 + 1) + ch n (k + 1) * (n - (k + 1)) = ch n (k + 1) * (k + 1) + ch n (k + 1) * (n - k) := by
        rw [← Nat.mul_add, ← Nat.mul_add]
        congr 1
        omega
      exact e1
    · rw [ch_lt (by omega : n < k + 1)]
      omega
theorem ch_le_pow (a : Nat) : ∀ b : Nat, ch a b ≤ a ^ b
  | 0 => by rw [ch_zero, Nat.pow_zero]; exact Nat.le_refl 1
  | b + 1 => by
    have h := ch_mul a b
    have h2 : ch a (b + 1) ≤ ch a (b + 1) * (b + 1) := Nat.le_mul_of_pos_right _ (by omega)
    have h3 : ch a b * (a - b) ≤ a ^ b * a := Nat.mul_le_mul (ch_le_pow a b) (Nat.sub_le _ _)
    rw [Nat.pow_succ]
    omega
theorem log_lt {n m : Nat} (h : n < 2 ^ m) (hm : 0 < m) : n.log2 < m := by
  by_cases h0 : n = 0
  · subst h0
    exact hm
  · exact (Nat.log2_lt h0).mpr h
theorem ch_bits {a b m : Nat} (h : a < 2 ^ m) (hb : b ≤ 20) (hm : 0 < m) (hm2 : m ≤ 5000) : (ch a b).log2 < bitsLine := by
  have h1 : ch a b ≤ (2 ^ m) ^ b := Nat.le_trans (ch_le_pow a b) (Nat.pow_le_pow_left (Nat.le_of_lt h) b)
  rw [← Nat.pow_mul] at h1
  have h2 : ch a b < 2 ^ (m * b + 1) := Nat.lt_of_le_of_lt h1 (Nat.pow_lt_pow_right (by decide) (Nat.lt_succ_self _))
  have h3 := log_lt h2 (by omega)
  have h4 : m * b ≤ 5000 * 20 := Nat.mul_le_mul hm2 hb
  have h5 : bitsLine = 134217728 := by decide
  omega
def fac : Nat → Nat
  | 0 => 1
  | n + 1 => (n + 1) * fac n
theorem fac_pos : ∀ n : Nat, 1 ≤ fac n
  | 0 => Nat.le_refl 1
  | n + 1 => Nat.mul_le_mul (by omega : 1 ≤ n + 1) (fac_pos n)
theorem ch_fac (n : Nat) : ∀ k : Nat, k ≤ n → ch n k * (fac k * fac (n - k)) = fac n
  | 0, _ => by rw [ch_zero, Nat.sub_zero]; show 1 * (1 * fac n) = fac n; omega
  | k + 1, h => by
    have ih := ch_fac n k (by omega)
    have e : n - k = (n - (k + 1)) + 1 := by omega
    have h1 := ch_mul n k
    have h2 : fac (n - k) = (n - k) * fac (n - (k + 1)) := by
      rw [e]
      rfl
    rw [h2] at ih
    show ch n (k + 1) * ((k + 1) * fac k * fac (n - (k + 1))) = fac n
    have e1 : ch n (k + 1) * ((k + 1) * fac k * fac (n - (k + 1))) = (ch n (k + 1) * (k + 1)) * (fac k * fac (n - (k + 1))) := by
      rw [Nat.mul_assoc (k + 1), ← Nat.mul_assoc]
    rw [e1, h1, ← ih]
    rw [Nat.mul_assoc, ← Nat.mul_assoc (n - k), Nat.mul_comm (n - k) (fac k), Nat.mul_assoc (fac k)]
theorem ch_symm {n k : Nat} (h : k ≤ n) : ch n k = ch n (n - k) := by
  have h1 := ch_fac n k h
  have h2 := ch_fac n (n - k) (Nat.sub_le _ _)
  have e : n - (n - k) = k := by omega
  rw [e, Nat.mul_comm (fac (n - k))] at h2
  exact Nat.eq_of_mul_eq_mul_right (Nat.mul_pos (fac_pos k) (fac_pos (n - k))) (h1.trans h2.symm)
theorem falling (a : Nat) : ∀ k : Nat, k ≤ a → Builtin.Math.fallingProduct (a : Int) k = ((ch a k * fac k : Nat) : Int)
  | 0, _ => by rw [ch_zero]; rfl
  | k + 1, h => by
    rw [PySem.W.mc_fp_succ, falling a k (by omega)]
    have e : ((a : Int) - (k : Int)) = ((a - k : Nat) : Int) := by omega
    rw [e, ← Int.natCast_mul]
    congr 1
    show ch a k * fac k * (a - k) = ch a (k + 1) * ((k + 1) * fac k)
    rw [← Nat.mul_assoc, ch_mul, Nat.mul_assoc, Nat.mul_comm (fac k), Nat.mul_assoc]
theorem comb_nat (a b : Nat) : PySem.W.mcComb (a : Int) (b : Int) = ((ch a b : Nat) : Int) := by
  by_cases h : b ≤ a
  · have hm : ∃ m : Nat, min (b : Int) ((a : Int) - (b : Int)) = (m : Int) ∧ m ≤ a ∧ ch a b = ch a m := by
      by_cases hb : b ≤ a - b
      · exact ⟨b, by omega, h, rfl⟩
      · exact ⟨a - b, by omega, by omega, ch_symm h⟩
    obtain ⟨m, e, hma, e2⟩ := hm
    rw [PySem.W.mcComb_at (by omega) (by omega) e, e2]
    rw [Int.toNat_natCast, falling a m hma, falling m m (Nat.le_refl m), ch_self, Nat.one_mul, ← Int.natCast_ediv]
    congr 1
    exact Nat.mul_div_cancel _ (fac_pos m)
  · rw [PySem.W.mcComb_above (by omega), ch_lt (by omega)]
    rfl

/-! ### cascades -/
def val : Nat → List Nat → Nat
  | _, [] => 0
  | s, a :: r => ch a s + val (s - 1) r
structure Cas (s : Nat) (xs : List Nat) : Prop where
  len : xs.length ≤ s
  low : ∀ i a, xs[i]? = some a → s - i ≤ a
  fall : ∀ i a b, xs[i]? = some a → xs[i + 1]? = some b → b < a
theorem Cas.nil (s : Nat) : Cas s [] := ⟨Nat.zero_le _, fun i a h => by simp at h, fun i a b h => by simp at h⟩
theorem Cas.tail {s a : Nat} {r : List Nat} (c : Cas (s + 1) (a :: r)) : Cas s r :=
  ⟨Nat.le_of_succ_le_succ c.len, fun i x h => by have := c.low (i + 1) x (by simpa using h); omega, fun i x y h h' => c.fall (i + 1) x y (by simpa using h) (by simpa using h')⟩
theorem Cas.pos {s a : Nat} {r : List Nat} (c : Cas s (a :: r)) : 1 ≤ s := by
  have := c.len
  rw [List.length_cons] at this
  omega
theorem Cas.head {s a : Nat} {r : List Nat} (c : Cas s (a :: r)) : s ≤ a := c.low 0 a rfl
theorem val_lt : ∀ {xs : List Nat} {s u : Nat}, Cas s xs → (∀ a, xs[0]? = some a → a < u) → s ≤ u → val s xs < ch u s
  | [], s, u, _, _, h => ch_pos h
  | a :: r, s, u, c, hu, h => by
    obtain ⟨t, rfl⟩ : ∃ t, s = t + 1 := ⟨s - 1, by have := c.pos; omega⟩
    have hd := c.head
    have ih := val_lt (u := a) c.tail (fun b hb => c.fall 0 a b rfl (by simpa using hb)) (by omega)
    have ha := hu a rfl
    have hm := ch_mono (t + 1) (show a + 1 ≤ u from ha)
    show ch a (t + 1) + val (t + 1 - 1) r < ch u (t + 1)
    rw [Nat.add_sub_cancel]
    rw [ch_succ] at hm
    omega
def iz (xs : List Nat) : List Int := List.map (fun (n : Nat) => (n : Int)) xs
theorem iz_len (xs : List Nat) : (iz xs).length = xs.length := List.length_map _
theorem iz_append (xs ys : List Nat) : iz (xs ++ ys) = iz xs ++ iz ys := List.map_append
theorem iz_get (xs : List Nat) (i : Nat) : (iz xs)[i]? = Option.map (fun (n : Nat) => (n : Int)) xs[i]? := List.getElem?_map
theorem cas_lt : ∀ {xs ys : List Nat} {s : Nat}, Cas s xs → Cas s ys → HT.lexLt (iz xs) (iz ys) = true → val s xs < val s ys
  | [], [], _, _, _, h => by cases h
  | [], y :: ys, s, _, c, _ => by
    have := ch_pos c.head
    show 0 < ch y s + val (s - 1) ys
    omega
  | x :: xs, [], _, _, _, h => by cases h
  | x :: xs, y :: ys, s, c, d, h => by
    obtain ⟨t, rfl⟩ : ∃ t, s = t + 1 := ⟨s - 1, by have := c.pos; omega⟩
    have h' : (if (x : Int) = (y : Int) then HT.lexLt (iz xs) (iz ys) else decide ((x : Int) < (y : Int))) = true := h
    by_cases e : x = y
    · subst e
      rw [if_pos rfl] at h'
      have := cas_lt c.tail d.tail h'
      show ch x (t + 1) + val t xs < ch x (t + 1) + val t ys
      omega
    · rw [if_neg (by omega)] at h'
      have hlt : x < y := by
        have := of_decide_eq_true h'
        omega
      have h1 := val_lt (u := x + 1) c (fun a ha => by cases ha; omega) (by have := c.head; omega)
      have h2 := ch_mono (t + 1) (show x + 1 ≤ y from hlt)
      show val (t + 1) (x :: xs) < ch y (t + 1) + val t ys
      omega
theorem lex_eq : ∀ {xs ys : List Nat}, HT.lexLt (iz xs) (iz ys) = false → HT.lexLt (iz ys) (iz xs) = false → xs = ys
  | [], [], _, _ => rfl
  | [], _ :: _, h, _ => by cases h
  | _ :: _, [], _, h => by cases h
  | x :: xs, y :: ys, h, h' => by
    have g : (if (x : Int) = (y : Int) then HT.lexLt (iz xs) (iz ys) else decide ((x : Int) < (y : Int))) = false := h
    have g' : (if (y : Int) = (x : Int) then HT.lexLt (iz ys) (iz xs) else decide ((y : Int) < (x : Int))) = false := h'
    by_cases e : x = y
    · subst e
      rw [if_pos rfl] at g g'
      rw [lex_eq g g']
    · rw [if_neg (by omega)] at g g'
      have := of_decide_eq_false g
      have := of_decide_eq_false g'
      omega
theorem cas_uniq {xs ys : List Nat} {s : Nat} (c : Cas s xs) (d : Cas s ys) (h : val s xs = val s ys) : xs = ys := by
  refine lex_eq ?_ ?_
  · cases e : HT.lexLt (iz xs) (iz ys) with
    | false => rfl
    | true => have := cas_lt c d e; omega
  · cases e : HT.lexLt (iz ys) (iz xs) with
    | false => rfl
    | true => have := cas_lt d c e; omega
theorem cas_dec {xs ys : List Nat} {s : Nat} (c : Cas s xs) (d : Cas s ys) : HT.lexLt (iz xs) (iz ys) = decide (val s xs < val s ys) := by
  cases e : HT.lexLt (iz xs) (iz ys) with
  | true => exact (decide_eq_true (cas_lt c d e)).symm
  | false =>
    cases e' : HT.lexLt (iz ys) (iz xs) with
    | true => exact (decide_eq_false (by have := cas_lt d c e'; omega)).symm
    | false =>
      have := lex_eq e e'
      subst this
      exact (decide_eq_false (by omega)).symm
/-! ### one more item -/
theorem val_snoc : ∀ (xs : List Nat) (s a : Nat), val s (xs ++ [a]) = val s xs + ch a (s - xs.length)
  | [], s, a => by show ch a s + val (s - 1) [] = 0 + ch a (s - 0); rw [Nat.sub_zero]; show ch a s + 0 = _; omega
  | x :: xs, s, a => by
    show ch x s + val (s - 1) (xs ++ [a]) = ch x s + val (s - 1) xs + ch a (s - (xs.length + 1))
    rw [val_snoc xs (s - 1) a, show s - 1 - xs.length = s - (xs.length + 1) by omega]
    omega
theorem Cas.snoc {s : Nat} {xs : List Nat} {b : Nat} (c : Cas s xs) (hl : xs.length + 1 ≤ s) (hb : s - xs.length ≤ b) (hf : ∀ a, xs.getLast? = some a → b < a) : Cas s (xs ++ [b]) where
  len := by rw [List.length_append, List.length_singleton]; exact hl
  low := fun i a h => by
    by_cases hi : i < xs.length
    · rw [List.getElem?_append_left hi] at h
      exact c.low i a h
    · rw [List.getElem?_append_right (by omega)] at h
      by_cases e : i = xs.length
      · subst e
        rw [Nat.sub_self] at h
        cases h
        exact hb
      · rw [List.getElem?_eq_none (by rw [List.length_singleton]; omega)] at h
        cases h
  fall := fun i x y h h' => by
    by_cases hi : i + 1 < xs.length
    · rw [List.getElem?_append_left hi] at h'
      rw [List.getElem?_append_left (by omega)] at h
      exact c.fall i x y h h'
    · by_cases e : i + 1 = xs.length
      · rw [List.getElem?_append_right (by omega), e, Nat.sub_self] at h'
        cases h'
        rw [List.getElem?_append_left (by omega)] at h
        refine hf x ?_
        rw [List.getLast?_eq_getElem?, ← e, Nat.add_sub_cancel]
        exact h
      · rw [List.getElem?_append_right (by omega), List.getElem?_eq_none (by rw [List.length_singleton]; omega)] at h'
        cases h'
theorem Cas.init {s : Nat} {xs : List Nat} {b : Nat} (c : Cas s (xs ++ [b])) : Cas s xs ∧ xs.length + 1 ≤ s ∧ s - xs.length ≤ b ∧ ∀ a, xs.getLast? = some a → b < a := by
  have hl := c.len
  rw [List.length_append, List.length_singleton] at hl
  have hb : (xs ++ [b])[xs.length]? = some b := by rw [List.getElem?_append_right (Nat.le_refl _), Nat.sub_self]; rfl
  refine ⟨⟨by omega, fun i a h => ?_, fun i x y h h' => ?_⟩, hl, c.low _ _ hb, fun a h => ?_⟩
  · exact c.low i a (by rw [List.getElem?_append_left (List.getElem?_eq_some_iff.mp h).1]; exact h)
  · exact c.fall i x y (by rw [List.getElem?_append_left (List.getElem?_eq_some_iff.mp h).1]; exact h) (by rw [List.getElem?_append_left (List.getElem?_eq_some_iff.mp h').1]; exact h')
  · rw [List.getLast?_eq_getElem?] at h
    have h0 := (List.getElem?_eq_some_iff.mp h).1
    refine c.fall (xs.length - 1) a b (by rw [List.getElem?_append_left h0]; exact h) ?_
    rw [show xs.length - 1 + 1 = xs.length by omega]
    exact hb
/-- what the greatest item for the rest makes of the rest -/
theorem cas_add {s p rest a : Nat} {xs : List Nat} (c : Cas s xs) (hl : xs.length + p = s) (hp : 1 ≤ p) (hr : 1 ≤ rest) (hx : ∀ b, xs.getLast? = some b → rest < ch b p) (h1 : ch a p ≤ rest) (h2 : rest < ch (a + 1) p) :
    Cas s (xs ++ [a]) ∧ rest - ch a p < ch a (p - 1) := by
  have hap : p ≤ a := by
    by_cases h : p ≤ a
    · exact h
    · have h3 := ch_mono p (show a + 1 ≤ p by omega)
      rw [ch_self] at h3
      omega
  refine ⟨c.snoc (by omega) (by omega) fun b hb => ?_, ?_⟩
  · have h3 := hx b hb
    by_cases h : a < b
    · exact h
    · have := ch_mono p (show b ≤ a by omega)
      omega
  · obtain ⟨q, rfl⟩ : ∃ q, p = q + 1 := ⟨p - 1, by omega⟩
    rw [ch_succ] at h2
    rw [Nat.add_sub_cancel]
    omega
/-! ### the next number's cascade -/
structure Nxt (s n : Nat) (xs : List Nat) (b : Nat) : Prop where
  cas : Cas s xs
  len : xs.length + 1 ≤ s
  low : s - xs.length ≤ b
  last : ∀ a, xs.getLast? = some a → b ≤ a
  val : HrM.val s xs + ch b (s - xs.length) = n
theorem Nxt.done {s n : Nat} {xs : List Nat} {b : Nat} (h : Nxt s n xs b) (hb : ∀ a, xs.getLast? = some a → a ≠ b) : Cas s (xs ++ [b]) ∧ HrM.val s (xs ++ [b]) = n :=
  ⟨h.cas.snoc h.len h.low fun a ha => by have := h.last a ha; have := hb a ha; omega, by rw [val_snoc]; exact h.val⟩
theorem Nxt.step {s n : Nat} {xs : List Nat} {b : Nat} (h : Nxt s n (xs ++ [b]) b) : Nxt s n xs (b + 1) := by
  obtain ⟨c, h1, h2, h3⟩ := h.cas.init
  have hl := h.len
  rw [List.length_append, List.length_singleton] at hl
  refine ⟨c, h1, by omega, fun a ha => h3 a ha, ?_⟩
  have e := h.val
  rw [val_snoc, List.length_append, List.length_singleton] at e
  obtain ⟨q, hq⟩ : ∃ q, s - xs.length = q + 1 := ⟨s - xs.length - 1, by omega⟩
  rw [show s - (xs.length + 1) = q by omega, hq] at e
  rw [hq, ch_succ]
  omega
theorem Nxt.start {s : Nat} {xs : List Nat} {b : Nat} (c : Cas s (xs ++ [b])) (h : xs.length + 1 = s) : Nxt s (HrM.val s (xs ++ [b]) + 1) xs (b + 1) := by
  obtain ⟨c1, h1, h2, h3⟩ := c.init
  refine ⟨c1, h1, by omega, h3, ?_⟩
  rw [val_snoc, show s - xs.length = 1 by omega, ch_one, ch_one]
  omega
theorem cas_more {s : Nat} {xs : List Nat} (c : Cas s xs) (h : xs.length < s) : Cas s (xs ++ [s - xs.length]) ∧ val s (xs ++ [s - xs.length]) = val s xs + 1 := by
  refine ⟨c.snoc h (Nat.le_refl _) fun a ha => ?_, by rw [val_snoc, ch_self]⟩
  rw [List.getLast?_eq_getElem?] at ha
  have := c.low _ _ ha
  have := (List.getElem?_eq_some_iff.mp ha).1
  omega
/-! ### sums over a cascade -/
/-- the terms g a i, i the size left -/
def terms (g : Nat → Nat → Nat) : Nat → List Nat → List Nat
  | _, [] => []
  | s, a :: r => g a s :: terms g (s - 1) r
theorem terms_len (g : Nat → Nat → Nat) : ∀ (s : Nat) (xs : List Nat), (terms g s xs).length = xs.length
  | _, [] => rfl
  | s, _ :: r => congrArg (· + 1) (terms_len g (s - 1) r)
theorem terms_get (g : Nat → Nat → Nat) : ∀ (s : Nat) (xs : List Nat) (i : Nat), (terms g s xs)[i]? = (xs[i]?).map fun a => g a (s - i)
  | _, [], i => by simp [terms]
  | s, a :: r, 0 => rfl
  | s, a :: r, i + 1 => by
    show (terms g (s - 1) r)[i]? = (r[i]?).map _
    rw [terms_get g (s - 1) r i, show s - 1 - i = s - (i + 1) by omega]
theorem terms_sum : ∀ (s : Nat) (xs : List Nat), (terms ch s xs).sum = val s xs
  | _, [] => rfl
  | s, a :: r => by
    show (ch a s :: terms ch (s - 1) r).sum = _
    rw [List.sum_cons, terms_sum (s - 1) r]
    rfl
theorem iz_sum (xs : List Nat) : (iz xs).sum = ((xs.sum : Nat) : Int) := by
  induction xs with
  | nil => rfl
  | cons x xs ih =>
    show ((x : Int) :: iz xs).sum = _
    rw [List.sum_cons, ih, List.sum_cons]
    omega
/-- a cascade's number is small if its items are -/
theorem val_bits {s B : Nat} {xs : List Nat} (c : Cas s xs) (hs : s ≤ 17) (h : ∀ a ∈ xs, a < 2 ^ B) (hB : 5 ≤ B) : val s xs < 2 ^ (B * s + s) := by
  have hu : s ≤ 2 ^ B := Nat.le_trans hs (Nat.le_trans (by decide : 17 ≤ 2 ^ 5) (Nat.pow_le_pow_right (by decide) hB))
  have h1 := val_lt (u := 2 ^ B) c (fun a ha => h a (List.mem_of_getElem? ha)) hu
  have h2 := ch_le_pow (2 ^ B) s
  rw [← Nat.pow_mul] at h2
  exact Nat.lt_of_lt_of_le h1 (Nat.le_trans h2 (Nat.pow_le_pow_right (by decide) (Nat.le_add_right _ _)))
end HrM

/-! Lower and upper numbers go together; upper numbers of sums. -/
namespace HrM
def gL (δ a i : Nat) : Nat := ch (a - δ) (i - 1)
def gU (δ a i : Nat) : Nat := ch (a + δ) (i + 1)
def sL (δ s : Nat) (xs : List Nat) : Nat := (terms (gL δ) s xs).sum
def sU (δ s : Nat) (xs : List Nat) : Nat := (terms (gU δ) s xs).sum
theorem sL_cons (δ s a : Nat) (r : List Nat) : sL δ (s + 1) (a :: r) = ch (a - δ) s + sL δ s r := by
  show (gL δ a (s + 1) :: terms (gL δ) s r).sum = _
  rw [List.sum_cons]
  rfl
theorem sU_cons (δ s a : Nat) (r : List Nat) : sU δ (s + 1) (a :: r) = ch (a + δ) (s + 2) + sU δ s r := by
  show (gU δ a (s + 1) :: terms (gU δ) s r).sum = _
  rw [List.sum_cons]
  rfl
theorem val_cons (s a : Nat) (r : List Nat) : val (s + 1) (a :: r) = ch a (s + 1) + val s r := rfl
theorem sL_le {δ : Nat} (hδ : δ ≤ 1) : ∀ {xs : List Nat} {s u : Nat}, Cas s xs → (∀ a, xs[0]? = some a → a < u) → sL δ s xs ≤ ch (u - δ) (s - 1)
  | [], _, _, _, _ => Nat.zero_le _
  | a :: r, s, u, c, hu => by
    obtain ⟨t, rfl⟩ : ∃ t, s = t + 1 := ⟨s - 1, by have := c.pos; omega⟩
    have hd := c.head
    have ha := hu a rfl
    rw [sL_cons, Nat.add_sub_cancel]
    cases t with
    | zero =>
      have hr : r = [] := List.eq_nil_of_length_eq_zero (Nat.le_zero.mp c.tail.len)
      subst hr
      rw [ch_zero, ch_zero]
      exact Nat.le_refl 1
    | succ t =>
      have ih := sL_le hδ (u := a) c.tail fun b hb => c.fall 0 a b rfl (by simpa using hb)
      rw [Nat.add_sub_cancel] at ih
      have e := ch_succ (a - δ) t
      have m := ch_mono (t + 1) (show a - δ + 1 ≤ u - δ by omega)
      omega
theorem sU_lt {δ : Nat} : ∀ {ys : List Nat} {s u : Nat}, Cas s ys → (∀ a, ys[0]? = some a → a < u) → s + 1 ≤ u + δ → sU δ s ys < ch (u + δ) (s + 1)
  | [], s, u, _, _, h => ch_pos h
  | b :: r, s, u, c, hu, h => by
    obtain ⟨t, rfl⟩ : ∃ t, s = t + 1 := ⟨s - 1, by have := c.pos; omega⟩
    have hd := c.head
    have hb := hu b rfl
    have ih := sU_lt (δ := δ) (u := b) c.tail (fun x hx => c.fall 0 b x rfl (by simpa using hx)) (by omega)
    rw [sU_cons]
    have e := ch_succ (b + δ) (t + 1)
    have m := ch_mono (t + 1 + 1) (show b + δ + 1 ≤ u + δ by omega)
    have e2 : t + 1 + 1 = t + 2 := rfl
    rw [e2] at *
    omega
/-- the two numbers go together -/
theorem gal {δ : Nat} (hδ : δ ≤ 1) : ∀ {xs ys : List Nat} {s : Nat}, Cas (s + 1) xs → Cas s ys → (sL δ (s + 1) xs ≤ val s ys ↔ val (s + 1) xs ≤ sU δ s ys)
  | [], _, _, _, _ => ⟨fun _ => Nat.zero_le _, fun _ => Nat.zero_le _⟩
  | a :: r, [], s, c, _ => by
    have hd := c.head
    have h1 := ch_pos (n := a - δ) (k := s) (by omega)
    have h2 := ch_pos (n := a) (k := s + 1) hd
    rw [sL_cons, val_cons]
    show ch (a - δ) s + sL δ s r ≤ 0 ↔ ch a (s + 1) + val s r ≤ 0
    omega
  | a :: r, b :: q, s, c, d => by
    obtain ⟨t, rfl⟩ : ∃ t, s = t + 1 := ⟨s - 1, by have := d.pos; omega⟩
    have ha := c.head
    have hb := d.head
    rw [sL_cons, val_cons, val_cons, sU_cons]
    rcases Nat.lt_trichotomy (a - δ) b with h | h | h
    · have h1 := sL_le hδ (u := a) c.tail fun x hx => c.fall 0 a x rfl (by simpa using hx)
      rw [Nat.add_sub_cancel] at h1
      have e := ch_succ (a - δ) t
      have m := ch_mono (t + 1) (show a - δ + 1 ≤ b by omega)
      have h2 := val_lt (u := a + 1) c (fun x hx => by cases hx; omega) (by omega)
      rw [val_cons] at h2
      have m2 := ch_mono (t + 2) (show a + 1 ≤ b + δ by omega)
      constructor
      · intro _
        have e2 : t + 1 + 1 = t + 2 := rfl
        rw [e2] at *
        omega
      · intro _
        omega
    · have ih := gal hδ c.tail d.tail
      have e : a = b + δ := by omega
      rw [h]
      subst e
      constructor
      · intro z
        have := ih.mp (by omega)
        have e2 : t + 1 + 1 = t + 2 := rfl
        rw [e2]
        omega
      · intro z
        have e2 : t + 1 + 1 = t + 2 := rfl
        rw [e2] at z
        have := ih.mpr (by omega)
        omega
    · have h1 := val_lt (u := b + 1) d (fun x hx => by cases hx; omega) (by omega)
      rw [val_cons] at h1
      have m := ch_mono (t + 1) (show b + 1 ≤ a - δ by omega)
      have h2 := sU_lt (δ := δ) (u := b + 1) d (fun x hx => by cases hx; omega) (by omega)
      rw [sU_cons] at h2
      have m2 := ch_mono (t + 2) (show b + 1 + δ ≤ a by omega)
      have e2 : t + 1 + 1 = t + 2 := rfl
      rw [e2] at *
      constructor <;> intro z <;> omega

/-! ### there is a cascade -/
theorem step_at (p : Nat → Prop) (lo : Nat) (h0 : p lo) : ∀ k : Nat, ¬ p (lo + k) → ∃ a, p a ∧ ¬ p (a + 1)
  | 0, h => absurd h0 h
  | k + 1, h => by
    by_cases q : p (lo + k)
    · exact ⟨lo + k, q, h⟩
    · exact step_at p lo h0 k q
theorem ch_more {s : Nat} (hs : 1 ≤ s) : ∀ l : Nat, l + 1 ≤ ch (s + l) s
  | 0 => by
    show 1 ≤ ch s s
    rw [ch_self]
    exact Nat.le_refl 1
  | l + 1 => by
    have ih := ch_more hs l
    obtain ⟨t, rfl⟩ : ∃ t, s = t + 1 := ⟨s - 1, by omega⟩
    have h1 := ch_pos (n := t + 1 + l) (k := t) (by omega)
    have e := ch_succ (t + 1 + l) t
    have e2 : t + 1 + (l + 1) = t + 1 + l + 1 := by omega
    rw [e2, e]
    omega
theorem top_ex {s n : Nat} (hs : 1 ≤ s) (hn : 1 ≤ n) : ∃ a, ch a s ≤ n ∧ n < ch (a + 1) s := by
  obtain ⟨a, h1, h2⟩ := step_at (fun a => ch a s ≤ n) s (by rw [ch_self]; exact hn) n (by have := ch_more hs n; omega)
  exact ⟨a, h1, Nat.lt_of_not_le h2⟩
theorem ex_cas : ∀ (s n : Nat), 1 ≤ s ∨ n = 0 → ∃ xs, Cas s xs ∧ val s xs = n
  | 0, n, h => by
    have : n = 0 := by omega
    subst this
    exact ⟨[], Cas.nil 0, rfl⟩
  | s + 1, n, _ => by
    by_cases hn : n = 0
    · subst hn
      exact ⟨[], Cas.nil _, rfl⟩
    obtain ⟨a, h1, h2⟩ := top_ex (s := s + 1) (n := n) (by omega) (by omega)
    have h3 : n - ch a (s + 1) < ch a s := by rw [ch_succ] at h2; omega
    have hsa : s + 1 ≤ a := by
      by_cases z : s + 1 ≤ a
      · exact z
      · have := ch_mono (s + 1) (show a + 1 ≤ s + 1 by omega)
        rw [ch_self] at this
        omega
    obtain ⟨xs, c, v⟩ := ex_cas s (n - ch a (s + 1)) (by
      by_cases z : s = 0
      · subst z
        rw [ch_zero] at h3
        omega
      · omega)
    refine ⟨a :: xs, ⟨by have := c.len; simpa using this, fun i x h => ?_, fun i x y h h' => ?_⟩, by rw [val_cons, v]; omega⟩
    · cases i with
      | zero => cases h; omega
      | succ i => have := c.low i x (by simpa using h); omega
    · cases i with
      | zero =>
        cases h
        have hy : xs[0]? = some y := by simpa using h'
        by_cases z : y < a
        · exact z
        · have g1 : ch y s ≤ val s xs := by
            cases xs with
            | nil => simp at hy
            | cons w ws =>
              cases hy
              show ch y s ≤ ch y s + val (s - 1) ws
              omega
          have g2 := ch_mono s (show a ≤ y by omega)
          omega
      | succ i => exact c.fall i x y (by simpa using h) (by simpa using h')
noncomputable def cc (s n : Nat) : List Nat := if h : 1 ≤ s ∨ n = 0 then (ex_cas s n h).choose else []
theorem cc_cas {s n : Nat} (h : 1 ≤ s) : Cas s (cc s n) ∧ val s (cc s n) = n := by
  unfold cc
  rw [dif_pos (Or.inl h)]
  exact (ex_cas s n (Or.inl h)).choose_spec
theorem cc_eq {s n : Nat} {xs : List Nat} (h : 1 ≤ s) (c : Cas s xs) (v : val s xs = n) : xs = cc s n := cas_uniq c (cc_cas h).1 (v.trans (cc_cas h).2.symm)
noncomputable def Lf (δ s n : Nat) : Nat := sL δ s (cc s n)
noncomputable def Uf (δ s n : Nat) : Nat := sU δ s (cc s n)
theorem Gal {δ s m n : Nat} (hδ : δ ≤ 1) (hs : 1 ≤ s) : Lf δ (s + 1) m ≤ n ↔ m ≤ Uf δ s n := by
  have h1 := cc_cas (s := s + 1) (n := m) (by omega)
  have h2 := cc_cas (s := s) (n := n) hs
  have g := gal hδ h1.1 h2.1
  rw [h1.2, h2.2] at g
  exact g
theorem Uf_mono {δ s a b : Nat} (hδ : δ ≤ 1) (hs : 1 ≤ s) (h : a ≤ b) : Uf δ s a ≤ Uf δ s b :=
  (Gal hδ hs).mp (Nat.le_trans ((Gal hδ hs).mpr (Nat.le_refl _)) h)
theorem Lf_one (δ n : Nat) : Lf δ 1 n = if n = 0 then 0 else 1 := by
  by_cases h : n = 0
  · subst h
    have e := cc_eq (s := 1) (n := 0) (xs := []) (by decide) (Cas.nil 1) rfl
    unfold Lf
    rw [← e]
    rfl
  · have c : Cas 1 [n] := (Cas.nil 1).snoc (by simp) (by simp; omega) fun a h => nomatch h
    have v : val 1 [n] = n := by
      show ch n 1 + 0 = n
      rw [ch_one]
      omega
    have e := cc_eq (s := 1) (n := n) (by decide) c v
    unfold Lf
    rw [← e, if_neg h, sL_cons, ch_zero]
    rfl
theorem Lf_mono {δ s a b : Nat} (hδ : δ ≤ 1) (hs : 1 ≤ s) (h : a ≤ b) : Lf δ s a ≤ Lf δ s b := by
  by_cases h1 : s = 1
  · subst h1
    rw [Lf_one, Lf_one]
    split <;> split <;> omega
  · obtain ⟨t, rfl⟩ : ∃ t, s = t + 1 := ⟨s - 1, by omega⟩
    exact (Gal hδ (by omega)).mpr (Nat.le_trans h ((Gal hδ (by omega)).mp (Nat.le_refl _)))
end HrM

/-! Set comprehensions with two clauses: {elt for .. in .. for .. in ..}, by the rule of the set's add. -/
namespace Hr
open PySem PySem.Spec PyProof.Rows L2 PpSet
/-- {elt for t0 in i0 if .. for t1 in i1 if ..} -/
abbrev sc2 (elt t0 i0 t1 i1 : Expr) (ifs0 ifs1 : List Expr) (scope : Scope) (pos : Pos) : Expr := .SetComp elt [⟨t0, i0, ifs0, 0⟩, ⟨t1, i1, ifs1, 0⟩] scope pos
section
variable {prog : Program} {w : World} {A : Around} {R : Result → Shared → Prop} {s : Shared} {elt t0 i0 t1 i1 : Expr} {ifs0 ifs1 : List Expr} {scope : Scope} {pos : Pos} {it acc : Value} {env : Env}
theorem sturn_out : compTurn (sc2 elt t0 i0 t1 i1 ifs0 ifs1 scope pos) 0 it acc env = (do
      standAt i0.pos
      match ← pyNext it with
      | none => pure (.done .next)
      | some v =>
        letOwnedTupleGo t0 it v
        assign t0 env v
        let mut ok := true
        for c in ifs0 do
          if ok then ok ← isTrue c env (eval c env)
        if ok then
          let x ← eval i1 env
          standAt i1.pos
          let x ← foldedSetIterable i1 env x
          let _ ← runOwn (.compStart (sc2 elt t0 i0 t1 i1 ifs0 ifs1 scope pos) 1 (← holding [x] (pyIter x)) acc env) env
        again (.compLoop (sc2 elt t0 i0 t1 i1 ifs0 ifs1 scope pos) 0 it acc env)) := by rfl
theorem sturn_in : compTurn (sc2 elt t0 i0 t1 i1 ifs0 ifs1 scope pos) 1 it acc env = (do
      standAt i1.pos
      match ← pyNext it with
      | none => pure (.done .next)
      | some v =>
        letOwnedTupleGo t1 it v
        assign t1 env v
        let mut ok := true
        for c in ifs1 do
          if ok then ok ← isTrue c env (eval c env)
        if ok then
          (do let v ← eval elt env; standAt elt.pos; let _ ← call (.builtin "set.add") [acc, v])
        again (.compLoop (sc2 elt t0 i0 t1 i1 ifs0 ifs1 scope pos) 1 it acc env)) := by rfl
/-- tests of a clause -/
def tests (ifs : List Expr) (env : Env) : Sem Bool := forIn ifs true fun c r => if r = true then do let ok ← isTrue c env (eval c env); pure (ForInStep.yield ok) else pure (ForInStep.yield r)
theorem sloop_out (hs : ∀ x, foldedSetIterable i1 env x = pure x) (I : Nat → Shared → Prop)
    (turn : ∀ n s, I n s → wpAny (model prog w) A (pyNext it) (fun r s₁ => match r with
      | none => R (.ok .next) s₁
      | some v => wpAny (model prog w) A (letOwnedTupleGo t0 it v) (fun _ s₁' => wpAny (model prog w) A (assign t0 env v) (fun _ s₂ =>
          wpAny (model prog w) A (tests ifs0 env) (fun ok s₃ =>
            if ok = true then wpAny (model prog w) A (eval i1 env) (fun x s₄ => wpAny (model prog w) A (pyIter x) (fun it1 s₅ =>
              codeAny (model prog w) A (.compStart (sc2 elt t0 i0 t1 i1 ifs0 ifs1 scope pos) 1 it1 acc env) (fun r s' => match r with
                | .ok _ => ∃ m, m < n ∧ I m s'
                | .error _ => False) s₅) (notedBy (model prog w) A env fun e s' => R (.error e) s') s₄) (notedBy (model prog w) A env fun e s' => R (.error e) s') s₃
            else ∃ m, m < n ∧ I m s₃) (notedBy (model prog w) A env fun e s' => R (.error e) s') s₂) (notedBy (model prog w) A env fun e s' => R (.error e) s') s₁') (notedBy (model prog w) A env fun e s' => R (.error e) s') s₁) (notedBy (model prog w) A env fun e s' => R (.error e) s') s)
    (n : Nat) (h : I n s) : codeAny (model prog w) A (.compLoop (sc2 elt t0 i0 t1 i1 ifs0 ifs1 scope pos) 0 it acc env) R s := by
  refine codeAny_loop rfl I (fun n s hI => ?_) n h
  show wpAny _ A ((compTurn (sc2 elt t0 i0 t1 i1 ifs0 ifs1 scope pos) 0 it acc env).onRaise (fun x => do noteFrame x env; theTreesLotGoes x)) _ _ s
  refine wpAny_noted ?_
  rw [sturn_out]
  refine wpAny_bind (wpAny_standAt (wpAny_bind (wpAny_mono (turn n s hI) (fun r s₁ h₁ => ?_) fun _ _ h' => h')))
  cases r with
  | none => exact wpAny_pure h₁
  | some v =>
    refine wpAny_bind (wpAny_mono h₁ (fun _ s₁' h₁' => ?_) fun _ _ h' => h')
    refine wpAny_bind (wpAny_mono h₁' (fun _ s₂ h₂ => wpAny_bind (wpAny_mono h₂ (fun ok s₃ h₃ => ?_) fun _ _ h' => h')) fun _ _ h' => h')
    cases ok with
    | false => exact wpAny_pure ⟨rfl, h₃⟩
    | true =>
      refine wpAny_bind (wpAny_mono h₃ (fun x s₄ h₄ => ?_) fun _ _ h' => h')
      refine wpAny_bind (wpAny_standAt (wpAny_bind (wpAny_of_eq (hs x) (wpAny_bind (wpAny_holding (wpAny_mono h₄ (fun it1 s₅ h₅ => ?_) fun _ _ h' => h'))))))
      refine wpAny_bind (wpAny_runOwn ?_)
      rw [Around.mark_none]
      refine codeAny_mono h₅ fun r s' hr => ?_
      cases r with
      | ok f => first
          | exact wpAny_pure ⟨rfl, hr⟩
          | exact wpAny_bind (wpAny_pure (wpAny_pure ⟨rfl, hr⟩))
      | error e => exact hr.elim
theorem sloop_in (I : Nat → Shared → Prop)
    (turn : ∀ n s, I n s → wpAny (model prog w) A (pyNext it) (fun r s₁ => match r with
      | none => R (.ok .next) s₁
      | some v => wpAny (model prog w) A (letOwnedTupleGo t1 it v) (fun _ s₁' => wpAny (model prog w) A (assign t1 env v) (fun _ s₂ =>
          wpAny (model prog w) A (tests ifs1 env) (fun ok s₃ =>
            if ok = true then wpAny (model prog w) A (eval elt env) (fun x s₄ =>
              wpAny (model prog w) A (call (.builtin "set.add") [acc, x]) (fun _ s₅ => ∃ m, m < n ∧ I m s₅) (notedBy (model prog w) A env fun e s' => R (.error e) s') s₄) (notedBy (model prog w) A env fun e s' => R (.error e) s') s₃
            else ∃ m, m < n ∧ I m s₃) (notedBy (model prog w) A env fun e s' => R (.error e) s') s₂) (notedBy (model prog w) A env fun e s' => R (.error e) s') s₁') (notedBy (model prog w) A env fun e s' => R (.error e) s') s₁) (notedBy (model prog w) A env fun e s' => R (.error e) s') s)
    (n : Nat) (h : I n s) : codeAny (model prog w) A (.compLoop (sc2 elt t0 i0 t1 i1 ifs0 ifs1 scope pos) 1 it acc env) R s := by
  refine codeAny_loop rfl I (fun n s hI => ?_) n h
  show wpAny _ A ((compTurn (sc2 elt t0 i0 t1 i1 ifs0 ifs1 scope pos) 1 it acc env).onRaise (fun x => do noteFrame x env; theTreesLotGoes x)) _ _ s
  refine wpAny_noted ?_
  rw [sturn_in]
  refine wpAny_bind (wpAny_standAt (wpAny_bind (wpAny_mono (turn n s hI) (fun r s₁ h₁ => ?_) fun _ _ h' => h')))
  cases r with
  | none => exact wpAny_pure h₁
  | some v =>
    refine wpAny_bind (wpAny_mono h₁ (fun _ s₁' h₁' => ?_) fun _ _ h' => h')
    refine wpAny_bind (wpAny_mono h₁' (fun _ s₂ h₂ => wpAny_bind (wpAny_mono h₂ (fun ok s₃ h₃ => ?_) fun _ _ h' => h')) fun _ _ h' => h')
    cases ok with
    | false => exact wpAny_pure ⟨rfl, h₃⟩
    | true => exact wpAny_bind (wpAny_bind (wpAny_mono h₃ (fun x s₄ h₄ => wpAny_bind (wpAny_standAt (wpAny_bind (wpAny_mono h₄ (fun _ s₅ h₅ => wpAny_pure (wpAny_pure ⟨rfl, h₅⟩)) fun _ _ h' => h')))) fun _ _ h' => h'))
theorem sstart_in (h0 : codeAny (model prog w) A (.compLoop (sc2 elt t0 i0 t1 i1 ifs0 ifs1 scope pos) 1 it acc env) R s)
    (h : wpAny (model prog w) A (pyIter it) (fun it' s' => codeAny (model prog w) A (.compLoop (sc2 elt t0 i0 t1 i1 ifs0 ifs1 scope pos) 1 it' acc env) R s') (notedBy (model prog w) A env fun x s' => R (.error x) s') s) :
    codeAny (model prog w) A (.compStart (sc2 elt t0 i0 t1 i1 ifs0 ifs1 scope pos) 1 it acc env) R s := by
  refine codeAny_of_tree ?_
  show wpAny _ _ ((compStart (sc2 elt t0 i0 t1 i1 ifs0 ifs1 scope pos) 1 it acc env).onRaise (fun x => do noteFrame x env; standAt theWindowsPlace)) _ _ s
  refine wpAny_notedAt ?_
  unfold compStart
  show wpAny _ _ (ask >>= _) _ _ s
  refine wpAny_bind (wpAny_askSetting (wpAny_ite ?_))
  split
  · first
      | exact wpAny_bind (wpAny_pure (wpAny_pure (And.intro rfl h0)))
      | exact wpAny_pure (And.intro rfl h0)
  · first
      | exact wpAny_bind (wpAny_rule (wpAny_bind (wpAny_standAt (wpAny_bind (wpAny_mono h (fun it' s' h' => wpAny_pure (And.intro rfl h')) fun _ _ x => x)))))
      | (refine wpAny_bind (wpAny_rule ?_); show wpAny _ _ (standAt i1.pos >>= _) _ _ s; exact wpAny_bind (wpAny_standAt (wpAny_bind (wpAny_mono h (fun it' s' h' => wpAny_pure (And.intro rfl h')) fun _ _ x => x))))
end

section
variable {X : Cx}
/-- a set comprehension with two clauses: behind the first clause's store and tests the second source's own loop, from which Nx is reached; add: what adding a value asks and leaves -/
def tSc2 (new : Addr → HO) (add : Addr → V → Hp → (Hp → Prop) → Prop) (wi : TI) (g : TG) (tt : TT) (wi1 : TI) (g1 : TG) (tt1 : TT) (te : TE) (vs vs1 : List Nat) : TE := fun σ H Q => wi σ H fun J H1 => ∀ D, H1 D = none →
  ∃ W : Nat → Nat → Hp → Prop, (∃ m, W 0 m (upd H1 D (new D))) ∧ ∀ i m H, W i m H →
    (J.stop i H ∧ Q (.ref D) H) ∨ (J.go i H ∧ ∃ Nx : Hp → Prop, (∀ H', Nx H' → ∃ m', m' < m ∧ W (i + 1) m' H') ∧ ∀ x H', J.yld i H x H' → g x (wipe σ vs) H' fun σ2 H2 => wipe σ2 vs = wipe σ vs ∧ tt σ2 H2 fun b H3 =>
      if b = true then wi1 σ2 H3 fun J1 H4 => ∃ W1 : Nat → Nat → Hp → Prop, (∃ m, W1 0 m H4) ∧ ∀ j k H, W1 j k H →
        (J1.stop j H ∧ Nx H) ∨ (J1.go j H ∧ ∃ Nx1 : Hp → Prop, (∀ H', Nx1 H' → ∃ k', k' < k ∧ W1 (j + 1) k' H') ∧ ∀ x H', J1.yld j H x H' → g1 x (wipe σ2 vs1) H' fun σ3 H5 => wipe σ3 vs1 = wipe σ2 vs1 ∧ tt1 σ3 H5 fun b H6 =>
          if b = true then te σ3 H6 fun y H7 => add D y H7 Nx1 else Nx1 H6)
      else Nx H3)
theorem sc2_core {new : Addr → HO} {add : Addr → V → Hp → (Hp → Prop) → Prop} {pins : List (Addr × Obj)} {s : Shared} {σ : L2.St} {H : Hp} {Q : VK} {elt tg iter tg1 iter1 : Expr} {ifs ifs1 : List Expr} {scope : Scope} {own : List (PySem.Str × Nat)} {vs1 : List Nat} {pos pos' : Pos}
    {wi wi1 : TI} {g g1 : TG} {tt tt1 : TT} {te : TE} {use : Option (Value → Sem Unit)} {Qf : Value → Shared → Prop}
    (hnew : ∀ (H : Hp) (h : Heap), ObjOk X.prog X.w H (h.push { cls := .type "set", dict := none, data := .set #[] 0 (.fresh 0 0 (!X.w.params.followText "set-order")) }) h.objs.size (new h.objs.size))
    (hadd : ∀ (s : Shared) (H : Hp) (C : Addr) (cl : List (PySem.Str × Addr)) (fp : List Addr) (pins : List (Addr × Obj)) (σ : L2.St) (H' : Hp) (s' : Shared) (D : Addr) (y : V) (v : Value) (Nx : Hp → Prop) (Q E : Value → Shared → Prop),
      Inv (X.blk s H scope (compEnvC scope cl C X.env) fp) pins σ H' s' → RelV y v → add D y H' Nx → (∀ s2 H2, Inv (X.blk s H scope (compEnvC scope cl C X.env) fp) pins σ H2 s2 → Nx H2 → Q .none s2) → wpAny (model X.prog X.w) X.A (call (.builtin "set.add") [.ref D, v]) Q E s')
    (hc : X.calm = true) (hN : X.N.Nodup) (I : Inv X pins σ H s) (hi : PI X tg iter wi) (ok : BlkOk X.N X.env.scope scope own) (hv : ∀ i ∈ vs1, i ∈ own.map (·.2))
    (hg : ∀ (s : Shared) (H : Hp) (C : Addr) (cl : List (PySem.Str × Addr)) (fp : List Addr), PG (X.blk s H scope (compEnvC scope cl C X.env) fp) tg g)
    (ht : ∀ (s : Shared) (H : Hp) (C : Addr) (cl : List (PySem.Str × Addr)) (fp : List Addr), PTs (X.blk s H scope (compEnvC scope cl C X.env) fp) ifs tt)
    (he : ∀ (s : Shared) (H : Hp) (C : Addr) (cl : List (PySem.Str × Addr)) (fp : List Addr), PE (X.blk s H scope (compEnvC scope cl C X.env) fp) elt te)
    (hs : ∀ x, foldedSetIterable iter X.env x = pure x)
    (hi1 : ∀ (s : Shared) (H : Hp) (C : Addr) (cl : List (PySem.Str × Addr)) (fp : List Addr), PI (X.blk s H scope (compEnvC scope cl C X.env) fp) tg1 iter1 wi1)
    (hg1 : ∀ (s : Shared) (H : Hp) (C : Addr) (cl : List (PySem.Str × Addr)) (fp : List Addr), PG (X.blk s H scope (compEnvC scope cl C X.env) fp) tg1 g1)
    (ht1 : ∀ (s : Shared) (H : Hp) (C : Addr) (cl : List (PySem.Str × Addr)) (fp : List Addr), PTs (X.blk s H scope (compEnvC scope cl C X.env) fp) ifs1 tt1)
    (hs1 : ∀ env x, foldedSetIterable iter1 env x = pure x)
    (h : tSc2 new add wi g tt wi1 g1 tt1 te (own.map (·.2)) vs1 σ H Q)
    (hRR : ∀ D C s' m H', Inv X pins σ H' s' → Q (.ref D) H' → s'.heap.Ns C m → FpOk X pins H' C → compPost (model X.prog X.w) X.A X.xe use Qf (.ref D) C (.ok .next) s') :
    wpAny (model X.prog X.w) X.A (comprehension (sc2 elt tg iter tg1 iter1 ifs ifs1 scope pos) scope X.env pos' (newSet (.type "set")) false (eval iter X.env) use) Qf X.xe s := by
  have hfree : ∀ y ∈ scope.names, y.2 = .free → ∃ c, X.env.cells.lookup y.1 = some c := fun y hy e => by
    rcases ok.free y hy e with k | k
    · exact I.ok.has _ (.inl k)
    · exact I.ok.has _ (.inr k)
  refine wpAny_comprehension_free (use := use) rfl hs (closure_ok hfree) ok.kind (fun y hy e => by rw [ok.uniq y hy, e])
    (thn (hi.run pins s σ H _ I h) fun xv s1 hx => thn hx fun itv s2 h2 => ?_)
  obtain ⟨it, fp, tn, J, H2, e, I2, T, st2, f2, q⟩ := h2
  subst e
  refine newSet_ok (newEnv_comp ?_)
  have new2 := hnew (upd H2 s2.heap.objs.size (new s2.heap.objs.size)) s2.heap
  generalize hD : s2.heap.objs.size = D at new2
  have hDn : H2 D = none := I2.hok.fresh (Nat.le_of_eq hD)
  obtain ⟨W, ⟨m0, w0⟩, turn⟩ := q D hDn
  -- the new set
  generalize hs3 : ({ s2 with heap := s2.heap.push { cls := .type "set", dict := none, data := .set #[] 0 (.fresh 0 0 (!X.w.params.followText "set-order")) } } : Shared) = s3
  have I3 : Inv X pins σ (upd H2 D (new D)) s3 := by
    rw [← hs3]
    exact I2.laid (t' := s2.toks) (fun b o e => Heap.get?_push_of_some _ e) (Nat.le_of_eq hD) new2
  have h3 : s3.heap = s2.heap.push { cls := .type "set", dict := none, data := .set #[] 0 (.fresh 0 0 (!X.w.params.followText "set-order")) } := by rw [← hs3]
  have sz : ∀ b ∈ fp, b < s2.heap.objs.size := fun b hb => let ⟨_, e, _⟩ := T.obj _ _ st2 b hb; Heap.lt_size e
  have f3 : ∀ b ∈ fp, FpOk X pins (upd H2 D (new D)) b ∧ b < s3.heap.objs.size := fun b hb => by
    have hlt := sz b hb
    refine ⟨⟨?_, (f2 b hb).2⟩, by rw [h3, Heap.size_push]; exact Nat.lt_succ_of_lt hlt⟩
    rw [upd_ne (by rw [← hD]; exact Nat.ne_of_lt hlt)]
    exact (f2 b hb).1
  have st3 : tn 0 s3.heap := T.keep _ _ _ st2 fun b _ o e => by rw [h3]; exact Heap.get?_push_of_some _ e
  have I4 := block_start I3 ok hN f3
  generalize hcl : cellsFrom (s3.heap.objs.size + 1) scope.names (cloFrom X.env.cells scope.names []) = cl at I4
  have pg := hg s3 (upd H2 D (new D)) s3.heap.objs.size cl fp
  have pt := ht s3 (upd H2 D (new D)) s3.heap.objs.size cl fp
  have pe := he s3 (upd H2 D (new D)) s3.heap.objs.size cl fp
  have pi1 := hi1 s3 (upd H2 D (new D)) s3.heap.objs.size cl fp
  have pg1 := hg1 s3 (upd H2 D (new D)) s3.heap.objs.size cl fp
  have pt1 := ht1 s3 (upd H2 D (new D)) s3.heap.objs.size cl fp
  have pa := hadd s3 (upd H2 D (new D)) s3.heap.objs.size cl fp
  show codeAny _ _ (.compStart (sc2 elt tg iter tg1 iter1 ifs ifs1 scope pos) 0 (.ref it) (.ref D) (compEnvC scope cl s3.heap.objs.size X.env)) (compPost (model X.prog X.w) X.A X.xe use Qf (.ref D) s3.heap.objs.size) { s3 with heap := pushCells (s3.heap.push { cls := .type "dict", data := .dict #[] }) scope.names }
  have nfp : ∀ b ∈ fp, (upd H2 D (new D)) b = none := fun b hb => (f3 b hb).1.1
  generalize hce : compEnvC scope cl s3.heap.objs.size X.env = ce at I4 pg pt pe pi1 pg1 pt1 pa ⊢
  have cL : ce.locals = s3.heap.objs.size := by subst hce; rfl
  generalize hH3 : upd H2 D (new D) = H3 at I3 I4 pg pt pe pi1 pg1 pt1 pa w0 nfp f3
  generalize hs4 : ({ s3 with heap := pushCells (s3.heap.push { cls := .type "dict", data := .dict #[] }) scope.names } : Shared) = s4 at I4 ⊢
  have st4 : tn 0 s4.heap := T.keep _ _ _ st3 fun b _ o e => by rw [← hs4]; exact pushCells_keeps _ _ _ _ (Heap.get?_push_of_some _ e)
  have stat : ∀ {σ' : L2.St} {H' : Hp} {s' : Shared}, Inv (X.blk s3 H3 scope ce fp) [] σ' H' s' → (∀ b ∈ fp, H' b = none) → ∀ b ∈ fp, FpOk (X.blk s3 H3 scope ce fp) [] H' b := fun {σ' H' s'} I' hn b hb =>
    ⟨hn b hb, (I'.ok.exf b hb).1, I'.ok.exfs b hb, .inl hb, fun x c e => (I'.ok.exf b hb).2 x c e, fun p hp => absurd (show p ∈ ([] : List (Addr × Obj)) ++ [] from hp) (by simp)⟩
  have loop : codeAny (model X.prog X.w) X.A (.compLoop (sc2 elt tg iter tg1 iter1 ifs ifs1 scope pos) 0 (.ref it) (.ref D) ce) (compPost (model X.prog X.w) X.A X.xe use Qf (.ref D) s3.heap.objs.size) s4 := by
    refine sloop_out (hs1 ce) (fun n s' => ∃ i H', Inv (X.blk s3 H3 scope ce fp) [] (wipe σ (own.map (·.2))) H' s' ∧ tn i s'.heap ∧ (∀ b ∈ fp, H' b = none) ∧ W i n H') ?_ m0 ⟨0, H3, I4, st4, nfp, w0⟩
    rintro n s5 ⟨i, H5, I5, st5, n5, w5⟩
    rcases turn i n H5 w5 with ⟨stop, qq⟩ | ⟨go, Nx, hNx, step⟩
    · refine thnF (T.done (X.blk s3 H3 scope ce fp) rfl rfl rfl hc i [] s5 _ H5 (fun _ _ => False) I5 (stat I5 n5) st5 stop) fun r s6 ⟨hr, I6⟩ => ?_
      subst hr
      have I7 : Inv X pins σ H5 s6 := I3.call' (ch := fp) I6.os I6.base I6.hok I6.bare fun b hb => ⟨(f3 b hb).1.2.2.2.1, (f3 b hb).1.2.1, (f3 b hb).1.2.2.2.2.1, (f3 b hb).1.2.2.2.2.2⟩
      have nC : H5 s3.heap.objs.size = none := by
        have z : H5 ce.locals = none := I6.free
        rw [cL] at z
        exact z
      obtain ⟨m, hn, _⟩ := I6.loc
      have hn : s6.heap.Ns ce.locals m := hn
      rw [cL] at hn
      exact hRR D s3.heap.objs.size s6 m H5 I7 qq hn (I3.fpOk (Nat.le_refl _) nC)
    · refine thnF (T.item (X.blk s3 H3 scope ce fp) rfl rfl rfl hc i [] s5 _ H5 (fun _ _ => False) I5 (stat I5 n5) st5 go) fun r s6 ⟨u, hr, h6⟩ => ?_
      subst hr
      refine thnF h6 fun _ s7 ⟨x, H7, I7, r7, y7, st7, n7⟩ => ?_
      have I7' := I7.pinned (stat I7 n7) (T.obj _ _ st7)
      refine thnF (pg.run _ s7 _ H7 x u _ I7' r7 (step x H7 y7)) fun _ s8 ⟨σ8, H8, I8, hw8, q8⟩ => ?_
      refine thnF (pt.run _ s8 σ8 H8 _ I8 q8) fun b s9 ⟨H9, I9, q9⟩ => ?_
      -- the turn's end
      have fin : ∀ {σ9 : L2.St} {s' : Shared} {H' : Hp}, Inv (X.blk s3 H3 scope ce fp) ([] ++ pinsAt fp s7.heap) σ9 H' s' → (wipe σ (own.map (·.2))).length = σ9.length → (∀ (j : Nat) v, (wipe σ (own.map (·.2)))[j]? = some (some v) → σ9[j]? = some (some v)) → Nx H' →
          ∃ m, m < n ∧ ∃ i H', Inv (X.blk s3 H3 scope ce fp) [] (wipe σ (own.map (·.2))) H' s' ∧ tn i s'.heap ∧ (∀ b ∈ fp, H' b = none) ∧ W i m H' := fun {σ9 s' H'} I' hl hk nx => by
        obtain ⟨m', hm, w'⟩ := hNx H' nx
        have pin' : ∀ b ∈ fp, ∀ o, s7.heap.get? b = some o → s'.heap.get? b = some o ∧ H' b = none := fun b hb o e =>
          let z := I'.pin (b, o) (List.mem_append_right _ (List.mem_append_right _ (mem_pinsAt hb e)))
          ⟨z.1, z.2.1⟩
        refine ⟨m', hm, i + 1, H', (I'.unpinned (pins := [])).weak hl hk, T.keep _ _ _ st7 fun b hb o e => (pin' b hb o e).1, fun b hb => ?_, w'⟩
        obtain ⟨o, e, _⟩ := T.obj _ _ st7 b hb
        exact (pin' b hb o e).2
      have hl8 : (wipe σ (own.map (·.2))).length = σ8.length := by rw [← hw8, wipe_length]
      have hk8 : ∀ (j : Nat) v, (wipe σ (own.map (·.2)))[j]? = some (some v) → σ8[j]? = some (some v) := fun j v e => by
        rw [← hw8] at e
        exact (wipe_some e).1
      have hk9 : ∀ (j : Nat) v, (wipe σ (own.map (·.2)))[j]? = some (some v) → (wipe σ8 vs1)[j]? = some (some v) := fun j v e => by
        rw [← hw8] at e
        obtain ⟨e1, e2⟩ := wipe_some e
        rw [wipe_out fun z => e2 (hv j z)]
        exact e1
      cases b with
      | false =>
        simp only [Bool.false_eq_true, if_false] at q9 ⊢
        exact fin I9 hl8 hk8 q9
      | true =>
        simp only [if_true] at q9 ⊢
        refine thnF (pi1.run _ s9 σ8 H9 _ I9 q9) fun xv s10 hx => thnF hx fun itv s11 h11 => ?_
        obtain ⟨it1, fp1, tn1, J1, H11, e1, I11, T1, st11, f11, W1, ⟨m1, w1⟩, turn1⟩ := h11
        subst e1
        have stat1 : ∀ {H' : Hp}, (∀ b ∈ fp1, H' b = none) → ∀ b ∈ fp1, FpOk (X.blk s3 H3 scope ce fp) ([] ++ pinsAt fp s7.heap) H' b := fun hn b hb => ⟨hn b hb, (f11 b hb).2⟩
        have loop1 : codeAny (model X.prog X.w) X.A (.compLoop (sc2 elt tg iter tg1 iter1 ifs ifs1 scope pos) 1 (.ref it1) (.ref D) ce)
            (fun r s' => match r with
              | .ok _ => ∃ m, m < n ∧ ∃ i H', Inv (X.blk s3 H3 scope ce fp) [] (wipe σ (own.map (·.2))) H' s' ∧ tn i s'.heap ∧ (∀ b ∈ fp, H' b = none) ∧ W i m H'
              | .error _ => False) s11 := by
          refine sloop_in (fun k s' => ∃ j H', Inv (X.blk s3 H3 scope ce fp) ([] ++ pinsAt fp s7.heap) (wipe σ8 vs1) H' s' ∧ tn1 j s'.heap ∧ (∀ b ∈ fp1, H' b = none) ∧ W1 j k H') ?_ m1 ⟨0, H11, I11.weak (wipe_length _ _) (fun j v e => (wipe_some e).1), st11, fun b hb => (f11 b hb).1, w1⟩
          rintro k s12 ⟨j, H12, I12, st12, n12, w12⟩
          rcases turn1 j k H12 w12 with ⟨stop1, nx1⟩ | ⟨go1, Nx1, hNx1, step1⟩
          · refine thnF (T1.done (X.blk s3 H3 scope ce fp) rfl rfl rfl hc j _ s12 (wipe σ8 vs1) H12 (fun _ _ => False) I12 (stat1 n12) st12 stop1) fun r s13 ⟨hr, I13⟩ => ?_
            subst hr
            exact fin I13 (hl8.trans (wipe_length σ8 vs1).symm) hk9 nx1
          · refine thnF (T1.item (X.blk s3 H3 scope ce fp) rfl rfl rfl hc j _ s12 (wipe σ8 vs1) H12 (fun _ _ => False) I12 (stat1 n12) st12 go1) fun r s13 ⟨u1, hr, h13⟩ => ?_
            subst hr
            refine thnF h13 fun _ s14 ⟨x1, H14, I14, r14, y14, st14, n14⟩ => ?_
            have I14' := I14.pinned (stat1 n14) (T1.obj _ _ st14)
            refine thnF (pg1.run _ s14 (wipe σ8 vs1) H14 x1 u1 _ I14' r14 (step1 x1 H14 y14)) fun _ s15 ⟨σ15, H15, I15, hw15, q15⟩ => ?_
            refine thnF (pt1.run _ s15 σ15 H15 _ I15 q15) fun b1 s16 ⟨H16, I16, q16⟩ => ?_
            have fin1 : ∀ {s' : Shared} {H' : Hp}, Inv (X.blk s3 H3 scope ce fp) (([] ++ pinsAt fp s7.heap) ++ pinsAt fp1 s14.heap) σ15 H' s' → Nx1 H' → ∃ m, m < k ∧ ∃ j H', Inv (X.blk s3 H3 scope ce fp) ([] ++ pinsAt fp s7.heap) (wipe σ8 vs1) H' s' ∧ tn1 j s'.heap ∧ (∀ b ∈ fp1, H' b = none) ∧ W1 j m H' := fun {s' H'} I' nx => by
              obtain ⟨m', hm, w'⟩ := hNx1 H' nx
              have pin' : ∀ b ∈ fp1, ∀ o, s14.heap.get? b = some o → s'.heap.get? b = some o ∧ H' b = none := fun b hb o e =>
                let z := I'.pin (b, o) (List.mem_append_right _ (List.mem_append_right _ (mem_pinsAt hb e)))
                ⟨z.1, z.2.1⟩
              refine ⟨m', hm, j + 1, H', I'.unpinned.weak (by rw [← hw15, wipe_length]) (fun j v e => by rw [← hw15] at e; exact (wipe_some e).1), T1.keep _ _ _ st14 fun b hb o e => (pin' b hb o e).1, fun b hb => ?_, w'⟩
              obtain ⟨o, e, _⟩ := T1.obj _ _ st14 b hb
              exact (pin' b hb o e).2
            cases b1 with
            | false =>
              simp only [Bool.false_eq_true, if_false] at q16 ⊢
              exact fin1 I16 q16
            | true =>
              simp only [if_true] at q16 ⊢
              refine thnF (pe.run _ s16 σ15 H16 _ I16 q16) fun z s17 ⟨yv, H17, I17, r17, ad⟩ => ?_
              exact pa _ _ H17 s17 D yv z Nx1 _ _ I17 r17 ad fun s18 H18 I18 nx => fin1 I18 nx
        exact sstart_in loop1 (T1.self X.A 0 _ _ _ st11 loop1)
  exact codeAny_compStart_set loop (T.self X.A 0 _ _ _ st4 loop)
end
end Hr
namespace Hr
open PySem PySem.Spec PyProof.Rows L2 PpSet
section
variable {X : Cx}
/-- adding an int -/
def addI (w : World) (D : Addr) (y : V) (H : Hp) (Nx : Hp → Prop) : Prop := ∃ (k : Int) (S : Int → Bool) (n : Nat), y = .int k ∧ H D = some (SetO w D S n) ∧ n + 1 < scanBound ∧ Nx (upd H D (SetO w D (fun j => S j || decide (j = k)) (if S k = true then n else n + 1)))
theorem pe_sc2I {elt tg iter tg1 iter1 : Expr} {ifs ifs1 : List Expr} {scope : Scope} {own : List (PySem.Str × Nat)} {vs1 : List Nat} {pos : Pos} {wi wi1 : TI} {g g1 : TG} {tt tt1 : TT} {te : TE}
    (hc : X.calm = true) (hN : X.N.Nodup) (hi : PI X tg iter wi) (ok : BlkOk X.N X.env.scope scope own) (hv : ∀ i ∈ vs1, i ∈ own.map (·.2))
    (hg : ∀ (s : Shared) (H : Hp) (C : Addr) (cl : List (PySem.Str × Addr)) (fp : List Addr), PG (X.blk s H scope (compEnvC scope cl C X.env) fp) tg g)
    (ht : ∀ (s : Shared) (H : Hp) (C : Addr) (cl : List (PySem.Str × Addr)) (fp : List Addr), PTs (X.blk s H scope (compEnvC scope cl C X.env) fp) ifs tt)
    (hi1 : ∀ (s : Shared) (H : Hp) (C : Addr) (cl : List (PySem.Str × Addr)) (fp : List Addr), PI (X.blk s H scope (compEnvC scope cl C X.env) fp) tg1 iter1 wi1)
    (hg1 : ∀ (s : Shared) (H : Hp) (C : Addr) (cl : List (PySem.Str × Addr)) (fp : List Addr), PG (X.blk s H scope (compEnvC scope cl C X.env) fp) tg1 g1)
    (ht1 : ∀ (s : Shared) (H : Hp) (C : Addr) (cl : List (PySem.Str × Addr)) (fp : List Addr), PTs (X.blk s H scope (compEnvC scope cl C X.env) fp) ifs1 tt1)
    (he : ∀ (s : Shared) (H : Hp) (C : Addr) (cl : List (PySem.Str × Addr)) (fp : List Addr), PE (X.blk s H scope (compEnvC scope cl C X.env) fp) elt te)
    (hs : ∀ x, foldedSetIterable iter X.env x = pure x := by intro _; rfl) (hs1 : ∀ env x, foldedSetIterable iter1 env x = pure x := by intro _ _; rfl) :
    PE X (.SetComp elt [⟨tg, iter, ifs, 0⟩, ⟨tg1, iter1, ifs1, 0⟩] scope pos) (tSc2 (fun D => SetO X.w D (fun _ => false) 0) (addI X.w) wi g tt wi1 g1 tt1 te (own.map (·.2)) vs1) := by
  refine ⟨fun pins s σ H Q I h => ?_⟩
  rw [eval_SetComp]
  refine sc2_core (fun H h => setO_new (setR_fresh X.w)) (fun s1 H1 C cl fp pins1 σ1 H' s' D y v Nx Q1 E1 I1 r1 ad hq => ?_) hc hN I hi ok hv hg ht he hs hi1 hg1 ht1 hs1 h fun D C s' m H' I' q hn f => ⟨m, hn, fun h'' sb => ?_⟩
  · obtain ⟨k, S, n, rfl, ha, room, nx⟩ := ad
    obtain ⟨tk, rfl⟩ := r1
    have R := setO_get I1 ha
    refine setR_add R room fun h' sb new => ?_
    have he : ∃ u, h'.get? D = some u := by
      have ⟨o, _, _, _, ho, _⟩ := new
      exact ⟨o, ho⟩
    exact hq _ _ (I1.write (e := D) (t' := s'.toks + 1) (by rw [ha]; trivial) (.inl rfl) (fun b u hb hu => (sb.2 b hb).trans hu) he (setO_new new)) nx
  · obtain ⟨f0, f1, f2, f3, f4, f5⟩ := f
    exact ⟨.ref D, H', I'.turned (t' := s'.toks) (fun b o hb e => (sb.2 b hb).trans e) f0 f1 f3 f4 f5, rfl, q⟩
end
end Hr

/-! sorted of lists of tuples of ints, of any lengths but 0, any number of them. -/
namespace Hr
open PySem PySem.Spec PyProof.Rows L2
def sh0 : Nat → Bool := fun _ => false
def inls (ns : List Int) : List (Int ⊕ List Nat) := ns.map Sum.inl
theorem lex_inls : ∀ as bs : List Int, PyProof.Rows.lexLt itemOrd (inls as) (inls bs) = HT.lexLt as bs
  | [], [] => rfl
  | [], _ :: _ => rfl
  | _ :: _, [] => rfl
  | x :: xs, y :: ys => by
    have ih := lex_inls xs ys
    show PyProof.Rows.lexLt itemOrd (Sum.inl x :: inls xs) (Sum.inl y :: inls ys) = _
    rw [lex_cons, ih, HT.lexLt_cons]
    show (decide (x < y) || (!decide (y < x) && HT.lexLt xs ys)) = _
    by_cases e : x = y
    · rw [if_pos e, e, decide_eq_false (Int.lt_irrefl y)]
      rfl
    · rw [if_neg e]
      by_cases h : x < y
      · rw [decide_eq_true h]
        rfl
      · rw [decide_eq_false h, decide_eq_true (show y < x by omega)]
        rfl
theorem items_ints : ∀ (i : Nat) {us : List Value} {ns : List Int}, IntsAre us ns → tupItems sh0 i us = some (inls ns)
  | _, _, _, .nil => rfl
  | i, _, _, .cons n t r => by
    show (if sh0 i = true then none else (tupItems sh0 (i + 1) _).map (Sum.inl n :: ·)) = _
    rw [items_ints (i + 1) r]
    rfl
section
variable {h : Heap} {v : Value} {ns : List Int}
theorem key_of (x : TS.TupInts h v ns) : PyProof.Rows.G.tupKeyC h sh0 v = some (inls ns) := by
  obtain ⟨a, xs, rfl, ⟨o, ho, hc, n, hd⟩, i⟩ := x
  unfold PyProof.Rows.G.tupKeyC
  rw [if_pos (by simp only [PyProof.Rows.G.isTupObj, ho, hc]; decide)]
  simp only [tupKey, ho, hd]
  exact items_ints 0 i
theorem tup_of (x : TS.TupInts h v ns) (hn : ns ≠ []) : ∃ f, TupOf h sh0 v f := by
  obtain ⟨a, xs, rfl, ⟨o, ho, hc, n, hd⟩, i⟩ := x
  obtain ⟨l⟩ := xs
  cases i with
  | nil => exact absurd rfl hn
  | cons k t r => exact ⟨_, a, o, _, n, rfl, ho, hc, hd, rfl, fun _ => ⟨k, t, rfl⟩, fun z => nomatch z⟩
theorem tups_of : ∀ {vs : List Value}, (∀ v ∈ vs, ∃ ns, TS.TupInts h v ns ∧ ns ≠ []) → ∃ fs, TupsOf h sh0 vs fs
  | [], _ => ⟨[], .nil⟩
  | v :: vs, hx => by
    obtain ⟨ns, x, hn⟩ := hx v List.mem_cons_self
    obtain ⟨f, t⟩ := tup_of x hn
    obtain ⟨fs, r⟩ := tups_of fun u hu => hx u (List.mem_cons_of_mem _ hu)
    exact ⟨f :: fs, .cons t r⟩
end
section
variable {X : Cx} {pins : List (Addr × Obj)} {σ : L2.St} {H : Hp} {s : Shared}
/-- sorted(xs), xs a list of tuples of ints, none of them empty: a new list of the same, ascending -/
def rSortV (K : PySem.W.Frag) : List V → Hp → VK → Prop := fun vs H Q => ∃ (a : Addr) (xs : List V), vs = [V.ref a] ∧ SqL K H a xs ∧ (∀ x ∈ xs, ∃ ns, TupI K H x ns ∧ ns ≠ []) ∧
  ∀ (ys : List V) (p : Addr), ys.Perm xs → ys.Pairwise (fun x y => ∀ n m, TupI K H x n → TupI K H y m → HT.lexLt m n = false) → H p = none → Q (.ref p) (upd H p (.lst ys))
theorem cr_sortV : CallR X (.builtin "sorted") (rSortV X.K) := by
  intro pins s σ H vs us Q I r h
  obtain ⟨a, xs, rfl, hs, hx, q⟩ := h
  obtain ⟨its, rv, hl, hz⟩ := I.list hs
  rw [Vals.ref1 r]
  obtain ⟨e1, e2⟩ := bkV_refs rv fun x m => by
    obtain ⟨ns, ⟨t, e, _⟩, _⟩ := hx x m
    exact ⟨t, e⟩
  have hv : ∀ v ∈ its, ∃ ns, TS.TupInts s.heap v ns ∧ ns ≠ [] := fun v hv => by
    obtain ⟨t, rfl⟩ := e2 v hv
    have hm : V.ref t ∈ xs := by
      rw [e1]
      exact List.mem_map.mpr ⟨_, hv, rfl⟩
    obtain ⟨ns, ⟨t', e, ht⟩, hn⟩ := hx _ hm
    cases e
    exact ⟨ns, tupI_raw I ht, hn⟩
  obtain ⟨fs, tf⟩ := tups_of hv
  refine PyProof.Rows.G.sorted_tups (shape := sh0) hl.isList tf (fun v m => let ⟨ns, x, _⟩ := hv v m; ⟨_, key_of x⟩) (by rw [← rv.length]; exact hz) fun st' hp hsort hst => ?_
  have hpl := hp.toList
  rw [pairsOf_toList] at hpl
  have same : ∀ p ∈ (arrOf st').toList, p.1 = p.2 := fun p m => (mem_zip_self (hpl.mem_iff.mp m)).1
  have hperm : ((arrOf st').map (·.2)).toList.Perm its := by
    rw [Array.toList_map]
    have z := hpl.map Prod.snd
    rw [List.map_snd_zip (Nat.le_refl _)] at z
    exact z
  obtain ⟨ep, he'⟩ := PyProof.Rows.sortedAll_at s.heap its ((arrOf st').map (·.2))
  have h3 : ∀ u ∈ ((arrOf st').map (·.2)).toList, ∃ a, u = Value.ref a := fun u hu => e2 u (hperm.mem_iff.mp hu)
  have hpv : (((arrOf st').map (·.2)).toList.map bkV).Perm xs := by
    rw [e1]
    exact hperm.map bkV
  have hlen : (((arrOf st').map (·.2)).toList.map bkV).length ≤ sizeLine := by
    rw [hpv.length_eq]
    exact hz
  refine ⟨.ref _, upd H (s.heap.objs.size + 1) (.lst (((arrOf st').map (·.2)).toList.map bkV)), I.laid (t' := s.toks) (fun _ _ => PyProof.Rows.sortedAll_old) (Nat.le_succ _) ⟨hlen, _, ep, bkV_vals h3, he'⟩, rfl, q _ _ hpv ?_ (I.hok.fresh (Nat.le_succ _))⟩
  rw [Array.toList_map, List.map_map, List.pairwise_map, List.pairwise_iff_getElem]
  intro i j hi hj hij n m hn hm
  have key : ∀ (i : Nat) (hi : i < (arrOf st').toList.length) (n : List Int), TupI X.K H ((bkV ∘ fun x => x.2) (arrOf st').toList[i]) n → KK (PyProof.Rows.G.tupKindC s.heap sh0) (arrOf st') i = inls n := fun i hi n hn => by
    obtain ⟨t, et, ht⟩ := hn
    have eu : (arrOf st').toList[i].2 = .ref t := bkV_ref et
    have em := same _ (List.getElem_mem hi)
    have ea : (arrOf st')[i]? = some (arrOf st').toList[i] := by
      rw [← Array.getElem?_toList]
      exact List.getElem?_eq_getElem hi
    unfold KK
    rw [ea]
    show (PyProof.Rows.G.tupKeyC s.heap sh0 (arrOf st').toList[i].1).getD _ = _
    rw [em, eu, key_of (tupI_raw I ht)]
    rfl
  have hs2 := hsort i j (Nat.le_of_lt hij) (by rw [← hp.size_eq, ← Array.length_toList]; exact hj)
  rw [key i hi n hn, key j hj m hm] at hs2
  rw [← lex_inls]
  exact hs2
end
end Hr

/-! Any value, as far as a test of sets and families looks at it. -/
namespace Hr
open PySem PySem.Spec PyProof.Rows L2 Evl
inductive TD where
  | int (n : Int)
  | bl (b : Bool)
  | tup (ds : List TD)
  | oth
def TD.isInt : TD → Bool | .int _ => true | .bl _ => true | _ => false
def TD.isBl : TD → Bool | .bl _ => true | _ => false
def TD.isTup : TD → Bool | .tup _ => true | _ => false
mutual
inductive Th (H : Hp) : V → TD → Prop
  | non : Th H .non .oth
  | bl (b : Bool) : Th H (.bl b) (.bl b)
  | int (i : Int) : Th H (.int i) (.int i)
  | str (x : Str) : Th H (.str x) .oth
  | lst {a : Addr} {xs : List V} : H a = some (.lst xs) → Th H (.ref a) .oth
  | dK {a : Addr} {kvs : List (Key × V)} : H a = some (.dK kvs) → Th H (.ref a) .oth
  | tup {a : Addr} {xs : List V} {ds : List TD} : H a = some (.tup xs) → ThAll H xs ds → Th H (.ref a) (.tup ds)
inductive ThAll (H : Hp) : List V → List TD → Prop
  | nil : ThAll H [] []
  | cons {v : V} {vs : List V} {d : TD} {ds : List TD} : Th H v d → ThAll H vs ds → ThAll H (v :: vs) (d :: ds)
end
section
variable {H H' : Hp}
mutual
theorem Th.more (e : Ex H H') : ∀ {v : V} {d : TD}, Th H v d → Th H' v d
  | _, _, .non => .non
  | _, _, .bl b => .bl b
  | _, _, .int i => .int i
  | _, _, .str x => .str x
  | _, _, .lst h => .lst (e _ _ h)
  | _, _, .dK h => .dK (e _ _ h)
  | _, _, .tup h t => .tup (e _ _ h) (ThAll.more e t)
theorem ThAll.more (e : Ex H H') : ∀ {vs : List V} {ds : List TD}, ThAll H vs ds → ThAll H' vs ds
  | _, _, .nil => .nil
  | _, _, .cons h t => .cons (Th.more e h) (ThAll.more e t)
end
theorem ThAll.len : ∀ {vs : List V} {ds : List TD}, ThAll H vs ds → vs.length = ds.length
  | _, _, .nil => rfl
  | _, _, .cons _ t => by rw [List.length_cons, List.length_cons, t.len]
theorem ThAll.at : ∀ {vs : List V} {ds : List TD}, ThAll H vs ds → ∀ {i : Nat} {v : V}, vs[i]? = some v → ∃ d, ds[i]? = some d ∧ Th H v d
  | _, _, .nil, i, v, h => by simp at h
  | _, _, .cons (d := d) hd t, 0, v, h => by
    cases h
    exact ⟨d, rfl, hd⟩
  | _, _, .cons hd t, i + 1, v, h => ThAll.at t (by simpa using h)
theorem ThAll.ints : ∀ ns : List Int, ThAll H (ns.map V.int) (ns.map TD.int)
  | [] => .nil
  | n :: ns => .cons (.int n) (ThAll.ints ns)
theorem Th.kit {K : PySem.W.Frag} {v : V} {d : TD} (h : Th H v d) : ∃ nm : String, TyX K H v (.type nm) ∧ kitB nm "int" = some d.isInt ∧ kitB nm "bool" = some d.isBl ∧ kitB nm "tuple" = some d.isTup := by
  cases h with
  | non => exact ⟨"NoneType", .base .non, by decide +kernel, by decide +kernel, by decide +kernel⟩
  | bl b => exact ⟨"bool", .base (.bl b), by show kitB _ _ = some true; decide +kernel, by show kitB _ _ = some true; decide +kernel, by show kitB _ _ = some false; decide +kernel⟩
  | int i => exact ⟨"int", .base (.int i), by show kitB _ _ = some true; decide +kernel, by show kitB _ _ = some false; decide +kernel, by show kitB _ _ = some false; decide +kernel⟩
  | str x => exact ⟨"str", .base (.str x), by decide +kernel, by decide +kernel, by decide +kernel⟩
  | lst h => exact ⟨"list", .base (.lst h), by decide +kernel, by decide +kernel, by decide +kernel⟩
  | dK h => exact ⟨"dict", .base (.dK h), by decide +kernel, by decide +kernel, by decide +kernel⟩
  | tup h t => exact ⟨"tuple", .base (.tup h), by show kitB _ _ = some false; decide +kernel, by show kitB _ _ = some false; decide +kernel, by show kitB _ _ = some true; decide +kernel⟩
end
/-- for x in xs, xs a tuple or a list -/
def iAny (K : PySem.W.Frag) (tl : TE) : TI := fun σ H R => iTup K tl σ H R ∨ iList K tl σ H R
theorem pi_any {X : Cx} {tg l : Expr} {tl : TE} (h : PE X l tl) : PI X tg l (iAny X.K tl) :=
  ⟨fun pins s σ H R I q => q.elim (fun q => (pi_tup (tg := tg) h).run pins s σ H R I q) (fun q => (pi_list (tg := tg) h).run pins s σ H R I q)⟩
/-- the truth of a value -/
def tTru (K : PySem.W.Frag) (te : TE) : TT := fun σ H Q => te σ H fun x H' => ∃ k, TruV K x H' k ∧ Q k H'
theorem pt_tru {X : Cx} {K : PySem.W.Frag} {a : Expr} {ta : TE} (h : PE X a ta) (hw : ∀ whole : Sem Value, isTrue a X.env whole = (do let v ← whole; standAt a.pos; holding [v] (truthy v)) := by intro _; rfl) (hK : X.K = K := by rfl) : PT X a (tTru K ta) := by
  subst hK
  exact pt_truth h hw
/-! ### what the tests answer -/
def intB (l : Int) : TD → Bool
  | .int n => decide (l ≤ n)
  | _ => false
def intsB (l : Int) : TD → Bool
  | .tup ds => ds.all (intB l)
  | _ => false
def TD.val : TD → Int
  | .int n => n
  | _ => 0
def TD.items : TD → List TD
  | .tup ds => ds
  | _ => []
def TD.vals (d : TD) : List Int := d.items.map TD.val
def risB (ns : List Int) : Bool := (List.range (ns.length - 1)).all fun k => decide (ns.getD k 0 < ns.getD (k + 1) 0)
def setB (d : TD) : Bool := intsB 0 d && risB d.vals
theorem ints_vals {l : Int} {d : TD} (h : intsB l d = true) : d = .tup (d.vals.map .int) ∧ ∀ n ∈ d.vals, l ≤ n := by
  cases d with
  | tup ds =>
    have key : ∀ ds : List TD, ds.all (intB l) = true → ds = (ds.map TD.val).map .int ∧ ∀ n ∈ ds.map TD.val, l ≤ n := by
      intro ds
      induction ds with
      | nil => exact fun _ => ⟨rfl, fun n hn => by simp at hn⟩
      | cons d ds ih =>
        intro h
        rw [List.all_cons, Bool.and_eq_true] at h
        obtain ⟨h1, h2⟩ := ih h.2
        cases d with
        | int n =>
          refine ⟨?_, fun m hm => ?_⟩
          · rw [List.map_cons, List.map_cons, ← h1]
            rfl
          · rw [List.map_cons] at hm
            rcases List.mem_cons.mp hm with rfl | hm
            · exact of_decide_eq_true h.1
            · exact h2 m hm
        | _ => exact absurd h.1 Bool.false_ne_true
    obtain ⟨h1, h2⟩ := key ds h
    exact ⟨congrArg TD.tup h1, h2⟩
  | _ => exact absurd h Bool.false_ne_true
theorem bools (n : Nat) (f : Nat → Bool) : (List.range n).map (fun i => V.bl (f i)) = ((List.range n).map f).map V.bl := by rw [List.map_map]; rfl
theorem all_get {α : Type} (f : α → Bool) : ∀ (xs : List α) (g : Nat → Bool), (∀ i x, xs[i]? = some x → g i = f x) → ((List.range xs.length).map g).all id = xs.all f
  | [], _, _ => rfl
  | x :: xs, g, h => by
    rw [List.length_cons, List.range_succ_eq_map, List.map_cons, List.map_map, List.all_cons, List.all_cons, all_get f xs (g ∘ Nat.succ) fun i y hy => h (i + 1) y (by simpa using hy)]
    rw [show id (g 0) = f x from h 0 x rfl]
end Hr

/-! Own classes below Exception, at any depth: a field is stored in a fresh one. -/
namespace Hr
open PySem PySem.W PySem.Calls PyProof.Rows PySem.HandSPX
abbrev exT : List Value := [.type "Exception", .type "BaseException", .type "object"]
/-- own classes, then Exception's order -/
def refsEx : List Value → Bool
  | .ref _ :: r => refsEx r
  | l => l == exT
theorem refsEx_split : ∀ l : List Value, refsEx l = true → ∃ cs : List Addr, l = cs.map Value.ref ++ exT
  | [], h => absurd h (by decide)
  | .ref c :: r, h => by
    obtain ⟨cs, e⟩ := refsEx_split r h
    exact ⟨c :: cs, by rw [e]; rfl⟩
  | .none :: r, h => ⟨[], beq_iff_eq.mp h⟩
  | .ellipsis :: r, h => ⟨[], beq_iff_eq.mp h⟩
  | .notImplemented :: r, h => ⟨[], beq_iff_eq.mp h⟩
  | .bool _ :: r, h => ⟨[], beq_iff_eq.mp h⟩
  | .int _ _ :: r, h => ⟨[], beq_iff_eq.mp h⟩
  | .float _ _ :: r, h => ⟨[], beq_iff_eq.mp h⟩
  | .str _ _ :: r, h => ⟨[], beq_iff_eq.mp h⟩
  | .bytes _ _ :: r, h => ⟨[], beq_iff_eq.mp h⟩
  | .type _ :: r, h => ⟨[], beq_iff_eq.mp h⟩
  | .builtin _ :: r, h => ⟨[], beq_iff_eq.mp h⟩
theorem refsEx_pass (self : Value) (l : List Value) (h : refsEx l = true) : refuseLoop self "__setattr__" l = pure () := by
  obtain ⟨cs, rfl⟩ := refsEx_split l h
  clear h
  induction cs with
  | nil => exact F.store_Exception.passes self
  | cons c cs ih =>
    show refuseLoop self "__setattr__" (Value.ref c :: (cs.map Value.ref ++ exT)) = pure ()
    rw [refuseLoop_ref]
    exact ih
theorem refsEx_has (X : String) (l : List Value) (h : refsEx l = true) : l.contains (.type X) = exT.contains (.type X) := by
  obtain ⟨cs, rfl⟩ := refsEx_split l h
  clear h
  induction cs with
  | nil => rfl
  | cons c cs ih =>
    show (Value.ref c :: (cs.map Value.ref ++ exT)).contains (.type X) = _
    rw [List.contains_cons, ih]
    rfl
theorem refsEx_ne {l : List Value} (h : refsEx l = true) : l.isEmpty = false := by
  cases l with
  | nil => exact absurd h (by decide)
  | cons _ _ => rfl
end Hr
namespace Hr
open PySem PySem.Spec PyProof.Rows L2
/-- a comprehension within a comprehension: its block, by the names of the outer one -/
theorem blkOk_nest {N : List Str} {sc scope : Scope} {own : List (Str × Nat)} (h : blkC N sc scope own = true) : BlkOk N sc scope own := blkOk_by h
theorem passOn {X : Cx} {E : XK} (tk : Takes X fun cls d _ H => E cls d H) : Passes (L2.CX X.prog X.w) X E := passes_call tk fun _ _ _ _ h => h
/-- tuple(xs), by its own K -/
def rTupO (K : PySem.W.Frag) : List V → Hp → VK → Prop := fun xs H Q => ∃ p ys, xs = [V.ref p] ∧ ((SqL K H p ys ∧ ∀ l, H l = none → Q (.ref l) (upd H l (.tup ys))) ∨ SqT K H p ys ∧ Q (.ref p) H)
theorem call_tupO {X : Cx} {K : PySem.W.Frag} (hK : X.K = K := by rfl) : CallR X (.type "tuple") (rTupO K) := by
  subst hK
  exact call_tuple_of
end Hr

/-! try with several clauses `except X as n`, all of one name. -/
namespace Hr
open PySem PySem.Spec PyProof.Rows L2
abbrev Clause := Value × (Addr → Value → Option Addr → TS)
/-- the ends of a suite behind which the slot i is empty again -/
def offE (i : Nat) (D : Ends) : Ends where
  nx := fun τ G => D.nx (τ.set i none) G
  rt := D.rt
  bk := fun τ G => D.bk (τ.set i none) G
  ct := fun τ G => D.ct (τ.set i none) G
/-- what the clauses ask of an exception of the body, the first that takes it; slot i is the name's -/
def wNamed (K : PySem.W.Frag) (i : Nat) (W0 : WX) (D : Ends) : List Clause → WX
  | [] => W0
  | p :: ps => fun cls d τ G => ∃ b, PySem.W.exmOne K cls p.1 = some b ∧ (b = true → ∀ a, G a = none → p.2 a cls d (offE i D) (τ.set i (some (.ref a))) G) ∧ (b = false → wNamed K i W0 D ps cls d τ G)
inductive Named (X : Cx) (n : Str) : List ExceptHandler → List Clause → Prop
  | nil : Named X n [] []
  | cons {y : Str} {c : Value} {t : Addr → Value → Option Addr → TS} {st : Stmt} {sts : List Stmt} {q1 q2 : Pos} {hs : List ExceptHandler} {ps : List Clause} (nm : Names X y c)
      (go : ∀ (a : Addr) (ob : Obj) (cls : Value) (d : Option Addr) (pn : List (Addr × Obj)), Zc cls d ob → (∃ fv, ob.data = .fields fv) → PSs (X.suite a ((a, ob) :: pn)) (st :: sts) (t a cls d)) (r : Named X n hs ps) :
      Named X n (.ExceptHandler (some (.Name y q1)) (some n) (st :: sts) q2 :: hs) ((c, t) :: ps)
section
variable {X : Cx} {n : Str} {i : Nat} {sts : List Stmt} {h1 : ExceptHandler} {hs : List ExceptHandler} {ps : List Clause} {pos : Pos} {tb : WX → TS} {W0 : WX}
theorem ps_try_named (e1 : X.stack = X.env :: X.outer) (e2 : X.env.frame = some X.env.locals) (nd : X.N.Nodup) (hi : X.N[i]? = some n) (kn : X.env.kindOf n = some .local) (tk : Takes X W0)
    (hb : ∀ (W : WX) (pn : List (Addr × Obj)) (xe : Value → Shared → Prop), Takes (X.tr pn xe) W → PassesOwn (model X.prog X.w) X.A X.env xe → PSs (X.tr pn xe) sts (tb W))
    (hh : Named X n (h1 :: hs) ps) : PS X (.Try sts (h1 :: hs) [] [] pos) (fun D τ G => tb (wNamed X.K i W0 D ps) D τ G) := by
  constructor
  intro pins s τ G D I q0
  have frm : X.A.frames = some (X.env :: X.outer) := I.ok.frames.trans (congrArg some e1)
  have kl : Loc X.env.scope n := .inl kn
  refine wpAny_Try_except (wpAny_mono ((hb (wNamed X.K i W0 D ps) (X.pn ++ pins) (fun e u1 => wpAny (model X.prog X.w) X.A (noteFrame e X.env) (fun _ u2 =>
    wpAny (model X.prog X.w) X.A (setFlight e none) (fun _ u3 => wpAny (model X.prog X.w) X.A (handleBy e X.env (h1 :: hs)) (SP X pins D) X.xe u3) X.xe u2) X.xe u1) (fun u z xx => ?_) PassesOwn.looking).run [] s τ G D (I.toTry _) q0) (fun f z sp => ?_) fun _ _ z => z)
  · obtain ⟨a, B, s0, pins', τ', G', cls, d, rfl, J0, nb, up, sky, na, os, ag, w⟩ := xx
    have J : Inv X pins τ' G' s0 := J0.ofTry I.ok
    rw [e1] at sky
    show wpAny (model X.prog X.w) X.A (noteFrame (.ref a) X.env) _ _ _
    refine Sky.land Zc.steady frm e2 sky fun g3 fl up3 => ?_
    have upB := up.trans up3
    have J3 : Inv X pins τ' G' { z with heap := g3 } := J.landed nb fl.1 upB os ag
    obtain ⟨ob, fv, hob, hzc, hfv⟩ := fl.there
    have off : a ∉ frs (X.env :: X.outer) := fun hm => by
      obtain ⟨_, o', e', hn⟩ := fl.2.2.1.mem hm
      rw [hob] at e'
      cases e'
      exact hn _ hfv
    have aL : a ≠ X.env.locals := fun e => off (List.mem_filterMap.mpr ⟨X.env, List.mem_cons_self, by rw [e2, e]⟩)
    have aF : a ∉ X.fs := fun hm => by
      obtain ⟨ev, hev, hq⟩ := List.mem_filterMap.mp hm
      exact off (List.mem_filterMap.mpr ⟨ev, List.mem_cons_of_mem _ hev, hq⟩)
    have T3 := J3.suite hob hfv na aL aF
    suffices all : ∀ {ks : List ExceptHandler} {qs : List Clause}, Named X n ks qs → wNamed X.K i W0 D qs cls d τ' G' →
        wpAny (model X.prog X.w) X.A (handleBy (.ref a) X.env ks) (SP X pins D) X.xe { z with heap := g3 } from all hh w
    intro ks qs nk
    induction nk with
    | nil =>
      intro w
      refine wpAny_handleBy_nil ?_
      obtain ⟨_, _, _, _, _, t1, _, _, r1, _, r3, r4, _⟩ := id fl
      unfold PySem.passOn
      refine wpAny_bind (wpAny_field r1 r3 r4 ?_)
      rw [if_neg (show ¬ ((Value.ref t1 == Value.none) = true) by simp)]
      have last : wpAny (model X.prog X.w) X.A (setFlight (.ref a) X.env.frame) (fun _ z4 => wpAny (model X.prog X.w) X.A (throw (.ref a) : Sem Flow) (SP X pins D) X.xe z4) X.xe { z with heap := g3 } := by
        rw [e2]
        refine HandSPX.setFlight_upZ fl fun g4 f4 up4 => wpAny_throw (tk _ _ ?_)
        exact ⟨a, B, s0, pins, τ', G', cls, d, rfl, J, nb, upB.trans up4, .inr (.inr (e1 ▸ f4)), na, os, ag, w⟩
      first
        | exact wpAny_bind last
        | exact wpAny_bind (wpAny_pure (wpAny_bind last))
    | @cons y c t st sts' q1 q2 ks' qs' nm go rest ih =>
      intro w
      obtain ⟨b, hb1, yes, no⟩ := w
      have look : PySem.W.Looks (model X.prog X.w) g3 (typeOf (.ref a)) cls := fun A' Q' E' s' k q => wpAny_typeOf_ref (k _ _ hob) (hzc.1.symm ▸ q)
      have mt := PySem.W.exm_one (M := model X.prog X.w) J3.kIn look hb1
      refine wpAny_handleBy_cons (codeAny_handlers_test ?_) nofun
      have name : ∀ {Q' E' : Value → Shared → Prop}, Q' c { z with heap := g3 } → wpAny (model X.prog X.w) (X.A.mark (some (.ref a))) (eval (.Name y q1) X.env) Q' E' { z with heap := g3 } := fun {Q' E'} q => by
        obtain ⟨g, nd, k | ⟨k1, k2, k3⟩⟩ := nm
        · exact ld_glob (X := X.suite a ((a, ob) :: (X.pn ++ pins))) T3 g k q nd
        · exact ld_blt (X := X.suite a ((a, ob) :: (X.pn ++ pins))) T3 g k1 k2 q k3 nd
      refine name (mt.here ?_)
      cases b with
      | false => exact ih (no rfl)
      | true =>
        refine codeAny_handlers_suite_as (HandSPX.lands_againZ fl fun g4 f4 up4 => ?_)
        have J4 : Inv X pins τ' G' { z with heap := g4 } := J.landed nb f4.1 (upB.trans up4) os ag
        obtain ⟨ob4, fv4, hob4, hz4, hf4⟩ := f4.there
        refine store_ok (X := X.suite a ((a, ob4) :: (X.pn ++ pins))) (v := .ref a) (J4.suite hob4 hf4 na aL aF) nd hi kl rfl (fun s5 T5 => ?_) (.inr kn)
        refine wpAny_mono ((go a ob4 cls d (X.pn ++ pins) hz4 ⟨_, hf4⟩).run [] s5 _ G' _ T5 (yes rfl a na)) (fun f s6 sp => ?_) fun _ _ x => False.elim x
        have fin : ∀ {τ6 : L2.St} {G6 : Hp} {Q' : Shared → Prop}, Inv (X.suite a ((a, ob4) :: (X.pn ++ pins))) [] τ6 G6 s6 → (∀ s7, Inv X pins (τ6.set i none) G6 s7 → Q' s7) →
            wpAny (model X.prog X.w) X.A (do bindName X.env n .none; unbindBehindTheSuite X.env n q2) (fun _ s7 => Q' s7) X.xe s6 := fun T6 q => gone_ok (T6.unsuite I.ok) nd hi kn q
        cases f with
        | ret u =>
          obtain ⟨v, τ6, G6, T6, r6, q6⟩ := sp
          exact fin T6 fun s7 J7 => ⟨_, _, _, J7, r6, q6⟩
        | next =>
          obtain ⟨τ6, G6, T6, q6⟩ := sp
          exact fin T6 fun s7 J7 => ⟨_, _, J7, q6⟩
        | brk =>
          obtain ⟨τ6, G6, T6, q6⟩ := sp
          exact fin T6 fun s7 J7 => ⟨_, _, J7, q6⟩
        | cont =>
          obtain ⟨τ6, G6, T6, q6⟩ := sp
          exact fin T6 fun s7 J7 => ⟨_, _, J7, q6⟩
  · cases f with
    | ret u =>
      obtain ⟨v, τ', G', J', r, q⟩ := sp
      exact ⟨v, τ', G', J'.ofTry I.ok, r, q⟩
    | next =>
      obtain ⟨τ', G', J', q⟩ := sp
      exact wpAny_execs_nil ⟨τ', G', J'.ofTry I.ok, q⟩
    | brk =>
      obtain ⟨τ', G', J', q⟩ := sp
      exact ⟨τ', G', J'.ofTry I.ok, q⟩
    | cont =>
      obtain ⟨τ', G', J', q⟩ := sp
      exact ⟨τ', G', J'.ofTry I.ok, q⟩
end
end Hr

namespace HrE_thing
open PySem PySem.W PySem.Calls PyProof.Rows PySem.HandSPX Hr
section
variable {prog : Program} {w : World} {A : Around} {R : Result → Shared → Prop} {hp : Heap} {g : Array GenState} {d : Drawn} {t : Nat} {os : OsState}
open Builtin Builtin.ObjectAttr
theorem ex_osa {K : W.Frag} {name : Str} {tk : Tok} {v : Value} {x C : Addr} {fv : Array Value} {cd : ClassData}
    (X : K.In hp) (hx : hp.get? x = some { cls := .ref C, data := .fields fv }) (hcd : W.clsIn K C = some cd) (hm : refsEx cd.mro = true) (hh : cd.hasDict = true) (ha : W.findIn K (.ref C) name = some none)
    (hq : ∀ h' tk' dx, (∀ b o, b ≠ x → hp.get? b = some o → h'.get? b = some o) → hp.objs.size ≤ dx → dx ≠ x → h'.get? x = some { cls := .ref C, dict := some dx, data := .fields fv } →
      h'.Ns1 dx (fun y => if y = name then some v else none) → R (.ok (.ret .none)) ⟨h', g, d, tk', os⟩) :
    codeAny (model prog w) A (.call (.builtin "object.__setattr__") ⟨[.ref x, .str name tk, v], []⟩) R ⟨hp, g, d, t, os⟩ := by
  have I : W.InstAt hp x { cls := .ref C, data := .fields fv } C none := ⟨hx, rfl, rfl, trivial⟩
  have SF := F.store_object
  have ne := refsEx_ne hm
  have hob : cd.mro.contains (.type "object") = true := (refsEx_has "object" _ hm).trans (by decide +kernel)
  have hxs : x ≠ hp.objs.size := Nat.ne_of_lt (Heap.lt_size hx)
  have sub : W.Looks (model prog w) hp (isInstance (.ref x) (.type "object")) true := I.type.andThen (W.looks_mroIn X (by unfold W.mroIn; rw [hcd, Option.bind_some, if_neg (by rw [ne]; decide), hob]))
  refine codeAny_call_builtin SF.slot.plain SF.entry (@W.check_slot (model prog w) _ _ ⟨hp, g, d, t, os⟩ "object.__setattr__" "object" "__setattr__" (.ref x) [.str name tk, v] [] _ SF.kind SF.split sub (SF.args (.ref x) (.str name tk) v) ?_)
  have hmr : W.Looks (model prog w) hp (mroOf (.ref C)) cd.mro := (W.looks_clsIn X hcd).andThen .now
  have L3 : W.Looks (model prog w) hp (storeTaker? none) none := .now
  have hcls : W.Looks (model prog w) hp (classData C) cd := W.looks_clsIn X hcd
  rw [W.osa_eq, refuse_eq]
  refine wpAny_bind (wpAny_bind (I.type.at (wpAny_bind (hmr.at ?_))))
  rw [refsEx_pass _ _ hm]
  refine wpAny_pure (wpAny_bind (I.type.at (wpAny_bind ((W.looks_findIn X ha).at (wpAny_bind (L3.at ?_))))))
  show wpAny _ _ (storeInOwnDict (.ref x) (.ref C) (.str name tk) name v false) _ _ _
  obtain ⟨nm, bs, mro, ns, qn, hd, sn, sb, ab, col, del⟩ := cd
  dsimp only at hh
  subst hh
  unfold storeInOwnDict ownDictForStores
  repeat (first | with_reducible refine store_in_new ?_ ?_ | with_reducible refine wpAny_loadPart_at hx ?_ | with_reducible refine hcls.at ?_ | wp_step)
  · exact ⟨_, #[], _, (Heap.get?_update_ne _ _ _ _ hxs.symm).trans (Heap.get?_push_at rfl rfl), rfl, fun e he => absurd he (by simp), fun _ => rfl⟩
  · intro h' tk' hn' hs
    have hx₁ : (hp.push { cls := .type "dict", data := .dict #[] }).get? x = some { cls := .ref C, data := .fields fv } := Heap.get?_push_of_some _ hx
    refine hq h' tk' hp.objs.size (fun b o hb ho => ?_) (Nat.le_refl _) hxs.symm ?_ hn'
    · exact (hs.2 b (Nat.ne_of_lt (Heap.lt_size ho))).trans ((Heap.get?_update_ne _ _ _ _ hb).trans (Heap.get?_push_of_some _ ho))
    · exact (hs.2 x hxs).trans (Heap.get?_update_self _ hx₁ rfl)
end
/-! ### the text of __init__ -/
def iA (p1 p2 : Pos) : Arguments := { posonlyargs := [], args := [{ arg := "self", annotation := none, pos := p1 }, { arg := "thing", annotation := none, pos := p2 }], vararg := none, kwonlyargs := [], kw_defaults := [], kwarg := none, defaults := [] }
def iB (q1 q2 q3 q4 : Pos) : List Stmt := [.Assign [.Attribute (.Name "self" q1) "thing" q2] (.Name "thing" q3) q4]
def iS : Scope := { kind := .function, names := [(PySem.Str.ofString "self", .local), (PySem.Str.ofString "thing", .local)], isGenerator := false, isCoroutine := false, more := [] }
/-- what the written part says of Low, at C, and of its __init__, at fI -/
structure ExTxt (K : Frag) (mg : Str → Option Value) (cn : Str) (C fI : Addr) : Prop where
  gC : mg cn = some (.ref C)
  cls : ∃ nm q N bs bm sn sub ab col dd k0 k1 k2 k3 k5, K.lookup C = some (excClassObj nm q C N bs bm true sn sub ab col dd k0 k1 k2 k3 k5 "Exception.__new__") ∧ refsEx bm = true
  sa : findIn K (.ref C) "__setattr__" = some (some (.builtin "object.__setattr__"))
  ga : findIn K (.ref C) "__getattribute__" = some (some (.builtin "BaseException.__getattribute__"))
  gg : findIn K (.ref C) "__getattr__" = some none
  noN : findIn K (.ref C) "thing" = some none
  iC : findIn K (.ref C) "__init__" = some (some (.ref fI))
  tC : typeIn K (.ref fI) = some (.type "function")
  kC : keepIn K (.ref C) = true
  exC : subIn K (.ref C) (.type "BaseException") = some true
  tyC : typeIn K (.ref C) = some (.type "type")
  hdC : hasDictIn K C = true
  te : exmOne K (.ref C) (.ref C) = some true
  fn : ∃ (oc : Value) (od : Option Addr) (doc pm : Value) (an : Option Addr) (cdv ct : Value) (osl : Array (Option Value)) (p1 p2 q1 q2 q3 q4 : Pos) (qn : Str),
    K.lookup fI = some ⟨oc, od, .func (fnOf "__init__" qn (iA p1 p2) (iB q1 q2 q3 q4) iS .none .none doc pm an cdv ct), osl⟩ ∧ codeIn K cdv qn = true
theorem one_size (v : Value) : [v].length ≤ sizeLine := by
  rw [sizeLine_eq]
  exact (by decide : 1 ≤ 16777216)
theorem kept_but {K : Frag} {h h' : Heap} {x : Addr} (X : K.In h) (hx : K.lookup x = none) (k : ∀ b o, b ≠ x → h.get? b = some o → h'.get? b = some o) : K.In h' := fun a o e =>
  k a o (fun z => by rw [z, hx] at e; cases e) (X a o e)
theorem ldC {M : Model} {s : Shared} {name : Str} {scope : Scope} {L a : Addr} {cd : Value} {m : Str → Option Value} {x : Str} {pos : Pos} {v : Value} {Q : Value → Shared → Prop} {A : Around} {E : Value → Shared → Prop} (hn : s.heap.Ns L m) (hv : m x = some v) (h : Q v s)
    (hk : scope.kind = .function := by rfl) (hl : (envOfC name scope L a cd).kindOf x = some .local := by rfl) (hd : (x == ("__debug__" : Str)) = false := by decide) :
    wpAny M A (eval (.Name x pos) (envOfC name scope L a cd)) Q E s := wpAny_Name (wpAny_loadName_local hk hl hn hv h) hd
/-- what __init__ leaves of a fresh exception at x -/
structure InitEnd (h h' : Heap) (x C dx t1 : Addr) (v : Value) : Prop where
  keep : ∀ b o, b ≠ x → h.get? b = some o → h'.get? b = some o
  obj : h'.get? x = some { cls := .ref C, dict := some dx, data := .fields #[.ref t1, .none, .none, .none, .bool false, .none] }
  dbig : h.objs.size ≤ dx
  dne : dx ≠ x
  ns : h'.Ns1 dx (fun y => if y = "thing" then some v else none)
/-- a made Low -/
structure OwnMade (h h' : Heap) (e C d : Addr) (v : Value) : Prop where
  keep : ∀ b o, h.get? b = some o → h'.get? b = some o
  new : h.objs.size ≤ e
  obj : ∃ oe vs, h'.get? e = some oe ∧ oe.cls = .ref C ∧ oe.dict = some d ∧ oe.data = .fields vs ∧ vs[1]? = some .none
  dbig : h.objs.size ≤ d
  dne : d ≠ e
  ns : h'.Ns1 d (fun y => if y = "thing" then some v else none)
section
variable {prog : Program} {w : World} {A : Around} {E : Value → Shared → Prop} {R : Result → Shared → Prop} {s : Shared} {K : Frag} {mg : Str → Option Value} {cn : Str} {C fI : Addr}
theorem ex_init (T : ExTxt K mg cn C fI) {x t0 : Addr} {v : Value} (X : K.In s.heap) (hlim : s.heap.NoLimit) (hx : s.heap.get? x = some (excO C t0)) (hnx : K.lookup x = none) (hroom : A.depth < recursionLimit)
    (hq : ∀ h' tk dx, InitEnd s.heap h' x C dx t0 v → R (.ok (.ret .none)) { s with heap := h', toks := tk }) :
    codeAny (model prog w) A (.call (.ref fI) ⟨[.ref x, v], []⟩) R s := by
  obtain ⟨oc, od, doc, pm, an, cdv, ct, osl, p1, p2, q1, q2, q3, q4, qn, ho, hcd⟩ := T.fn
  obtain ⟨nm, q, N, bs, bm, sn, sub, ab, col, dd, k0, k1, k2, k3, k5, hC, hbm⟩ := T.cls
  have hcl : clsIn K C = some { name := nm, bases := bs, mro := .ref C :: bm, ns := N, qualname := q, hasDict := true, slotNames := sn, subclasses := sub, abstract := ab, collection := col, hasDel := false } := by unfold clsIn; rw [hC] <;> rfl
  refine Att.call_fn (binds := [("self", .ref x), ("thing", v)]) X hlim ho hcd hroom (BindsTo.of_eq (by first | rfl | with_unfolding_all rfl)) (by first | rfl | decide | with_unfolding_all rfl) (fun s₁ IC => ?_) rfl rfl rfl
  obtain ⟨h₁, tk₁, rfl⟩ := IC.toInCall.same
  have k : ∀ b o, s.heap.get? b = some o → h₁.get? b = some o := IC.toInCall.keep
  have hn := IC.toInCall.ns
  have hxL : s.heap.objs.size ≠ x := Nat.ne_of_gt (Heap.lt_size hx)
  have X₁ : K.In h₁ := X.keeps k
  have hx₁ := k _ _ hx
  -- self.by = by
  show wpAny _ _ (execs _ _) _ _ _
  refine wpAny_execs_cons (plainObj_wpAny_Assign_Attribute ?_)
  refine ldC (v := v) hn (by first | rfl | with_unfolding_all rfl | kernel_rfl) (ldC (v := .ref x) hn (by first | rfl | with_unfolding_all rfl | kernel_rfl) ?_)
  refine set_plain X₁ (ox := excO C t0) (od := none) ⟨hx₁, rfl, rfl, trivial⟩ T.sa ?_
  refine ex_osa X₁ hx₁ hcl (show refsEx (.ref C :: bm) = true from hbm) rfl T.noN (fun h₃ tk₃ dx k₃ dn dne hx₃ hn₃ => ?_)
  show wpAny _ _ (execs _ _) _ _ _
  have z : s.heap.objs.size < h₁.objs.size := hn.lt
  exact wpAny_execs_nil (hq h₃ tk₃ dx ⟨fun b o hb e => k₃ b o hb (k b o e), hx₃, Nat.le_of_lt (Nat.lt_of_lt_of_le z dn), dne, hn₃⟩)
theorem ex_made (T : ExTxt K mg cn C fI) {v : Value} (X : K.In s.heap) (hlim : s.heap.NoLimit) (hroom : A.depth + 1 < recursionLimit)
    (hq : ∀ h' tk e d, OwnMade s.heap h' e C d v → R (.ok (.ret (.ref e))) { s with heap := h', toks := tk }) :
    codeAny (model prog w) A (.call (.ref C) ⟨[v], []⟩) R s := by
  obtain ⟨nm, q, N, bs, bm, sn, sub, ab, col, dd, k0, k1, k2, k3, k5, hC, hbm⟩ := T.cls
  obtain ⟨hp, g, dr, tk, os⟩ := s
  have k : ∀ b o, hp.get? b = some o → ((hp.push (kdv_tup [v])).push (excO C hp.objs.size)).get? b = some o := fun b o e => Heap.get?_push_of_some _ (Heap.get?_push_of_some _ e)
  have hget : ((hp.push (kdv_tup [v])).push (excO C hp.objs.size)).get? (hp.objs.size + 1) = some (excO C hp.objs.size) := by heap_get
  have hnx : K.lookup (hp.objs.size + 1) = none := by
    cases e : K.lookup (hp.objs.size + 1) with
    | none => rfl
    | some o =>
      have z : hp.get? (hp.objs.size + 1) = some o := X _ _ e
      exact absurd (Nat.lt_of_succ_lt (Heap.lt_size z)) (Nat.lt_irrefl _)
  refine call_own F.excBase_Exception (fun X => refsEx_has X bm hbm) (X _ _ hC) (looks_findIn X T.iC) (fun self => bind_fn X self T.tC) (one_size v) ?_
  refine ex_init (s := ⟨(hp.push (kdv_tup [v])).push (excO C hp.objs.size), g, dr, tk, os⟩) T (X.keeps k) (hlim.keeps k) hget hnx ?_ fun h' tk' dx ⟨k', hx, dn, dne, hns⟩ => ?_
  · show A.depth + 1 < recursionLimit
    exact hroom
  · have old : ∀ b o, hp.get? b = some o → h'.get? b = some o := fun b o e => k' b o (Nat.ne_of_lt (Nat.lt_succ_of_lt (Heap.lt_size e))) (k b o e)
    have z : hp.objs.size + 1 + 1 ≤ dx := by
      first
        | (simpa only [Heap.size_push] using dn)
        | exact dn
        | (have q := dn; rw [Heap.size_push, Heap.size_push] at q; exact q)
    exact ⟨rfl, hq h' tk' (hp.objs.size + 1) dx ⟨old, Nat.le_succ _, ⟨_, _, hx, rfl, rfl, rfl, rfl⟩, Nat.le_trans (Nat.le_trans (Nat.le_succ _) (Nat.le_succ _)) z, dne, hns⟩⟩
end
end HrE_thing
namespace HrE_thing
open PySem PySem.Spec PyProof.Rows L2 Hr
theorem relO_ex {v : V} {v' : Value} (r : RelV v v') (f : Str) : RelO (List.lookup f [(("thing" : Str), v)]) (if f = "thing" then some v' else none) := by
  by_cases hw : f = "thing"
  · subst hw
    rw [if_pos rfl]
    have q : List.lookup ("thing" : Str) [(("thing" : Str), v)] = some v := by simp [List.lookup]
    rw [q]
    exact r
  · rw [if_neg hw]
    have qw : (f == ("thing" : Str)) = false := by simpa using hw
    have q2 : List.lookup f [(("thing" : Str), v)] = none := by simp [List.lookup, qw]
    rw [q2]
    trivial
section
variable {X : Cx} {cn : Str} {C fI : Addr}
/-- Low(e) -/
def tMkEx (C : Addr) (ta : TA) : L2.St → Hp → XK → Prop := fun σ H Q => ta σ H fun vs H1 => ∃ v, vs = [v] ∧ ∀ d, H1 d = none → Q (.ref C) (some d) (upd H1 d (.xd [(("thing" : Str), v)]))
theorem pmk_ex {a : Expr} {ta : TA} {p pos : Pos} {k : Nat} (T : ExTxt X.K X.mg cn C fI) (hr : Room k X.A) (ha : PA X [a] ta) (hg : Gl X cn := by rfl) (hdb : (cn == ("__debug__" : Str)) = false := by decide)
    (he : starEach (a :: []) X.env = (false, eval a X.env) :: starEach [] X.env := by rfl) (hpl : (backTo pos (starEach [] X.env)).any (·.1) = false := by rfl) :
    PMk X (.Call (.Name cn p) [a] [] pos) (tMkEx C ta) := by
  intro pins s σ H Q I h
  refine wpAny_Call_Name_kw (ld_glob I hg T.gC ?_ (hd := hdb))
  refine PySem.W.callWith_K (h₀ := X.base) I.ok.mod.kin T.kC (thn (ha.run pos pins s σ H _ I h) fun us s1 hh => ?_) he hpl
  obtain ⟨vs, H1, I1, r1, v, ev, q1⟩ := hh
  subst ev
  refine ⟨I1.kIn, ?_⟩
  cases r1 with
  | cons rv rn =>
    rename_i v' us'
    cases rn
    show wpAny _ _ (call (.ref C) [v']) _ _ _
    have hlim := I1.nolimit
    obtain ⟨hp, g, dr, tk, os⟩ := s1
    refine wpAny_call (ex_made T I1.kIn hlim (by have := hr.dp; omega) fun h' tk' e d M => ?_)
    show MkP X pins σ Q (.ref e) ⟨h', g, dr, tk', os⟩
    obtain ⟨oe, fv, hoe, hc, hd, hdat, h1⟩ := M.obj
    have hns := M.ns
    obtain ⟨G', g1, g2⟩ := restrict h' fun b => decide (b ≠ e)
    have gk : ∀ b, b ≠ e → G'.get? b = h'.get? b := fun b hb => g1 b (decide_eq_true hb)
    have ge : G'.get? e = none := g2 e (by simp)
    have old : ∀ b o, hp.get? b = some o → G'.get? b = some o := fun b o q => (gk b (Nat.ne_of_lt (Nat.lt_of_lt_of_le (Heap.lt_size q) M.new))).trans (M.keep b o q)
    have ob : ObjOk X.prog X.w (upd H1 d (.xd [(("thing" : Str), v)])) G' d (.xd [(("thing" : Str), v)]) :=
      ⟨_, hns.at (fun o q => (gk d M.dne).trans q), fun f => relO_ex rv f⟩
    have J : Inv X pins σ (upd H1 d (.xd [(("thing" : Str), v)])) ⟨G', g, dr, tk', os⟩ := I1.laid (t' := tk') old M.dbig ob
    refine ⟨e, oe, fv, ⟨G', g, dr, tk', os⟩, _, .ref C, some d, rfl, J, fun b o q => ?_, ge, hoe, ⟨hc, hd⟩, hdat, h1, ?_, rfl, I1.bare, raises_own T.exC T.tyC, q1 d (I1.hok.fresh M.dbig)⟩
    · by_cases hb : b = e
      · have q' : G'.get? b = some o := q
        rw [hb, ge] at q'; cases q'
      · exact (gk b hb).symm.trans q
    · rw [upd_ne (Ne.symm M.dne)]
      exact I1.hok.fresh M.new
/-- raise Low(e) -/
def tRaiseEx (C : Addr) (W : WX) (ta : TA) : TS := fun _ σ H => tMkEx C ta σ H fun cls d H' => W cls d σ H'
theorem ps_raiseEx {a : Expr} {ta : TA} {W : WX} {p pos pos2 : Pos} {k : Nat} (hc : X.calm = true) (T : ExTxt X.K X.mg cn C fI) (hr : Room k X.A) (tk : Takes X W) (ha : PA X [a] ta) (hg : Gl X cn := by rfl) (hdb : (cn == ("__debug__" : Str)) = false := by decide)
    (he : starEach (a :: []) X.env = (false, eval a X.env) :: starEach [] X.env := by rfl) (hpl : (backTo pos (starEach [] X.env)).any (·.1) = false := by rfl) :
    PS X (.Raise (some (.Call (.Name cn p) [a] [] pos)) none pos2) (tRaiseEx C W ta) := ps_raise hc tk (pmk_ex T hr ha hg hdb he hpl)
/-- e.thing, low the exception that the suite holds (at a; its class cls, its dict d) -/
def tGetEx (C : Addr) (a : Addr) (cls : Value) (d : Option Addr) (te : TE) : TE := fun σ H Q => te σ H fun x H1 => x = .ref a ∧ cls = .ref C ∧ ∃ (dd : Addr) (v : V), d = some dd ∧ H1 dd = some (.xd [(("thing" : Str), v)]) ∧ Q v H1
theorem pe_getEx {a : Addr} {oe : Obj} {cls : Value} {d : Option Addr} {pn : List (Addr × Obj)} {e : Expr} {te : TE} {pos : Pos} (T : ExTxt X.K X.mg cn C fI) (hz : Zc cls d oe) (hf : ∃ vs, oe.data = .fields vs) (he : PE (X.suite a ((a, oe) :: pn)) e te)
    (hb : attributeBase e "thing" X.env (eval e X.env) = eval e X.env := by rfl) :
    PE (X.suite a ((a, oe) :: pn)) (.Attribute e "thing" pos) (tGetEx C a cls d te) := by
  refine ⟨fun pins s σ H Q I h => ?_⟩
  refine attr_of hb (thn (he.run pins s σ H _ I h) fun u s1 hh => ?_)
  obtain ⟨x, H1, I1, rx, ex, ec, dd, v, ed, ea, q⟩ := hh
  subst ex
  obtain rfl : u = Value.ref a := rx
  subst ec
  subst ed
  obtain ⟨ha, _⟩ := I1.pin (a, oe) (List.mem_append_left _ List.mem_cons_self)
  obtain ⟨vs, hd⟩ := hf
  have hx : ObjOk X.prog X.w H1 s1.heap dd (.xd [(("thing" : Str), v)]) := I1.hok dd _ ea
  obtain ⟨mA, hns, hr⟩ := hx
  obtain ⟨od, ho, hl⟩ := lookIn_ns hns
  have l : List.lookup ("thing" : Str) [(("thing" : Str), v)] = some v := by simp [List.lookup]
  obtain ⟨u, hu, ru⟩ := RelO.some_of (v := v) (o := mA "thing") (by rw [← l]; exact hr "thing")
  have J : PySem.W.InstAt s1.heap a oe C (some od) := ⟨ha, hz.1, by unfold PySem.W.notCls; rw [hd] <;> rfl, by rw [hz.2]; exact ho⟩
  exact HandSPX.exc_get I1.kIn J T.ga T.gg T.exC (PySem.W.findObj_own T.hdC T.noN rfl (by rw [hl, hu])) (handed_of ru) ⟨v, H1, I1.tok _, ru, q⟩
end

end HrE_thing

/-! More rules: min of a tuple, repr of a bool, a range walked again, zip of tuples. -/
namespace Hr
open PySem PySem.Spec PyProof.Rows L2 Evl RZ
section
variable {X : Cx}
/-! ### min of a tuple of ints -/
def rMinT (K : PySem.W.Frag) : List V → Hp → VK → Prop := fun vs H Q => ∃ (a : Addr) (ns : List Int), vs = [.ref a] ∧ SqT K H a (ns.map V.int) ∧ 0 < ns.length ∧ ∀ m, m ∈ ns → (∀ y, y ∈ ns → m ≤ y) → Q (.int m) H
theorem foldl_min (n : Int) : ∀ ns : List Int, (ns.foldl min n ∈ n :: ns) ∧ (∀ y ∈ n :: ns, ns.foldl min n ≤ y) := by
  intro ns
  induction ns generalizing n with
  | nil => exact ⟨List.mem_singleton.mpr rfl, fun y hy => by cases List.mem_singleton.mp hy; exact Int.le_refl _⟩
  | cons k r ih =>
    obtain ⟨h1, h2⟩ := ih (min n k)
    rw [List.foldl_cons]
    refine ⟨?_, fun y hy => ?_⟩
    · rcases List.mem_cons.mp h1 with e | h
      · rw [e]
        by_cases z : n ≤ k
        · rw [Int.min_eq_left z]; exact List.mem_cons_self
        · rw [Int.min_eq_right (by omega)]; exact List.mem_cons_of_mem _ List.mem_cons_self
      · exact List.mem_cons_of_mem _ (List.mem_cons_of_mem _ h)
    · have h3 := h2 (min n k) List.mem_cons_self
      rcases List.mem_cons.mp hy with rfl | hy
      · omega
      · rcases List.mem_cons.mp hy with rfl | hy
        · omega
        · exact h2 y (List.mem_cons_of_mem _ hy)
theorem alike_all_ints (ns : List Int) : PySem.W.AlikeAll (ns.map PyData.int) := by
  refine ⟨fun x hx y hy => ?_, fun x hx => ?_⟩
  · obtain ⟨i, _, rfl⟩ := List.mem_map.mp hx
    obtain ⟨j, _, rfl⟩ := List.mem_map.mp hy
    simp only [PySem.W.alike]
  · obtain ⟨i, _, rfl⟩ := List.mem_map.mp hx
    intro h
    cases h
theorem depth_ints : ∀ ns : List Int, PyData.depthAll (ns.map PyData.int) ≤ 1
  | [] => by simp [PyData.depthAll]
  | x :: xs => by
    have ih := depth_ints xs
    simp only [List.map_cons, PyData.depthAll, PyData.depth]
    exact Nat.max_le.mpr ⟨by decide, ih⟩
theorem dp_ints {K : PySem.W.Frag} {H : Hp} : ∀ xs : List Int, DpAll K H (xs.map V.int) (xs.map PyData.int)
  | [] => .nil
  | x :: xs => .cons (.int x) (dp_ints xs)
theorem cr_minT (hc : X.calm = true) (hu : X.A.units + 64 < cLine) : CallR X (.builtin "min") (rMinT X.K) := by
  intro pins s σ H vs us Q I r h
  obtain ⟨a, ns, rfl, hs, hne, q⟩ := h
  obtain ⟨its, rv, hl, hz⟩ := I.tuple hs
  rw [Vals.ref1 r]
  obtain ⟨as, rd⟩ := Dp.readsAll I _ _ _ (dp_ints (K := X.K) (H := H) ns) rv
  cases ns with
  | nil => exact absurd hne (by decide)
  | cons n ns =>
    have rd' : ReadsAll s.heap its.toArray.toList (PyData.int n :: ns.map PyData.int) as := by
      rw [List.toList_toArray]
      exact rd
    have hd := depth_ints (n :: ns)
    refine PySem.W.min_tuple_data (I.ok.hd hc) (show s.heap.IsTuple a its.toArray from hl) rd' (alike_all_ints (n :: ns)) ?_ fun i v h' tk bs hv hr hk => ?_
    · have hd' : PyData.depthAll (PyData.int n :: ns.map PyData.int) ≤ 1 := hd
      omega
    · rw [PySem.W.minD_ints] at hr
      obtain ⟨m1, m2⟩ := foldl_min n ns
      generalize ns.foldl min n = m at hr m1 m2
      cases hr with
      | int _ t => exact ⟨.int m, H, I.kept hk, ⟨_, rfl⟩, q m m1 m2⟩

/-! ### repr of a bool -/
def tOf (b : Bool) : Str := if b then "True" else "False"
theorem cr_reprB : CallR X (.builtin "repr") (fun xs H Q => ∃ b, xs = [.bl b] ∧ Q (.str (tOf b)) H) := by
  intro pins s σ H xs us Q I r h
  obtain ⟨b, rfl, q⟩ := h
  obtain ⟨u, rfl, r1⟩ := vals1 r
  cases r1
  exact PySem.P.repr_of_bool ⟨.str _, H, I.tok _, ⟨_, rfl⟩, q⟩

/-! ### a range that stands, walked -/
def iRngV (te : TE) : TI := fun σ H R => te σ H fun x H1 => ∃ (a : Addr) (lo hi : Int), x = .ref a ∧ H1 a = some (.rng lo hi) ∧ (-(2 ^ 62) ≤ lo ∧ lo < 2 ^ 62 ∧ -(2 ^ 62) ≤ hi ∧ hi < 2 ^ 62) ∧ R (Itr lo (hi - lo).toNat) H1
theorem pi_rngV {tg e : Expr} {te : TE} (he : PE X e te) : PI X tg e (iRngV te) := by
  refine ⟨fun pins s σ H R I h => ?_⟩
  refine thn (he.run pins s σ H _ I h) fun v s1 ⟨x, H1, I1, r1, q1⟩ => ?_
  obtain ⟨a, lo, hi, e, ha, ⟨h1, h2, h3, h4⟩, q⟩ := q1
  subst e
  cases r1
  obtain ⟨t, u, v, ho⟩ := I1.hok _ _ ha
  refine wpAny_pyIter_range (show IsRange s1.heap a lo hi 1 t u v from ho) (small_one h1 h2 h3 h4) ?_
  refine ⟨s1.heap.objs.size, [s1.heap.objs.size], _, _, H1, rfl, I1.kept (t' := s1.toks) fun b o e => Heap.get?_push_of_some _ e, turn_range _ lo (hi - lo).toNat, ?_, fun b hb => ?_, q⟩
  · have e1 : lo + ((0 : Nat) : Int) * 1 = lo := by simp
    have e2 : (((hi - lo).toNat : Nat) : Int) - ((0 : Nat) : Int) = Builtin.Range.rangeSize lo hi 1 := by rw [rangeSize_one]; split <;> omega
    show IsRangeIter _ _ (lo + ((0 : Nat) : Int) * 1) ((((hi - lo).toNat : Nat) : Int) - ((0 : Nat) : Int)) 1
    rw [e1, e2]
    exact Heap.get?_push_size _ rfl
  · have e : b = s1.heap.objs.size := by simpa using hb
    subst e
    exact I1.fpOk (Nat.le_refl _) (I1.hok.fresh (Nat.le_refl _))
end
theorem walk_zipT {K : PySem.W.Frag} {a b : Addr} {xs ys : List V} {n : Nat} (hn : n = min xs.length ys.length) : Walk (ItzT K a b) n (fun H => SqT K H a xs ∧ SqT K H b ys) (YPair (fun i => xs[i]?) (fun i => ys[i]?)) := by
  subst hn
  refine ⟨fun i _ hi q => ?_, fun _ q => ⟨xs, ys, q.1, q.2, by omega⟩, fun i H v H' _ q y => ?_⟩
  · have h1 : i < xs.length := by omega
    have h2 : i < ys.length := by omega
    exact ⟨xs, ys, xs[i], ys[i], q.1, q.2, by simp [h1], by simp [h2]⟩
  · obtain ⟨T, x, z, h1, h2, h3, h4, h5⟩ := y
    exact ⟨T, x, z, h1, h2, h3, h4 xs q.1, h5 ys q.2⟩
/-- one argument, by name -/
def sw1 {α : Type} (us ws : List α) : List α := match us, ws with
  | [], [a] => [a]
  | _, _ => []
theorem sw1_rel {vs : List V} {us : List Value} {zs : List V} {ws : List Value} (r : Vals vs us) (q : Vals zs ws) : Vals (sw1 vs zs) (sw1 us ws) := by
  cases r with
  | cons _ _ => exact .nil
  | nil =>
    cases q with
    | nil => exact .nil
    | cons q1 q =>
      cases q with
      | nil => exact .cons q1 .nil
      | cons _ _ => exact .nil
theorem sw1_binds {K : PySem.W.Frag} {x qual : Str} {st : Stmt} {f : Addr} {fd : FuncData} {p1 : Str} (F : Fun K x qual st f fd)
    (h : ∀ (kV doc pm : Value) (an : Option Addr) (cdv ct a : Value), bindArgs (PySem.W.fnOf x qual (defArgs st) (defBody st) (defScope st) .none kV doc pm an cdv ct) ⟨[], [(p1, a)]⟩ = pure [(p1, a)]) :
    KBinds K fd [p1] [p1] sw1 sw1 := by
  obtain ⟨oc, od, kV, doc, pm, an, cdv, ct, osl, rfl, lk, hcd⟩ := F.ex
  refine ⟨fun s us ws _ hl => ?_, sw1_rel⟩
  match us, ws, hl with
  | [], [a], _ => exact .of_eq (h kV doc pm an cdv ct a)
  | _ :: _, _, hl => exact absurd hl (by intro z; cases z)
  | [], [], hl => exact absurd hl (by intro z; cases z)
  | [], _ :: _ :: _, hl => exact absurd hl (by intro z; cases z)

/-! ### comprehensions over what is made on the way -/
section
variable {K : PySem.W.Frag} {σ : L2.St} {H : Hp} {te tl : TE} {g : TG} {tt : TT} {vs : List Nat} {f : Nat → Bool} {v : Nat → V} {xs ys : List V}
theorem lcW {J : It} {n : Nat} {G : Hp → Prop} {Y : Nat → Hp → V → Hp → Prop} {Q : VK} (wk : Walk J n G Y) (f : Nat → Bool) (v : Nat → V) (hz : n ≤ 40000)
    (hG : ∀ H1, Ex H H1 → G H1) (hY : ∀ i H1 x H2, Y i H1 x H2 → Ex H1 H2)
    (hs : ∀ i x H1 H2, i < n → Ex H H1 → Y i H1 x H2 → ∃ σ2, (∀ k : L2.St → Hp → Prop, k σ2 H2 → g x (wipe σ vs) H2 k) ∧ wipe σ2 vs = wipe σ vs ∧ EvT tt σ2 H2 (f i) ∧ (f i = true → Ev te σ2 H2 (v i)))
    (q : ∀ p H2, H p = none → Ex H H2 → H2 p = some (.lst (given n f v)) → Q (.ref p) H2) : tLc (fun _ H' R => R J H') g tt te vs σ H Q :=
  el_lcW (wi := fun _ H' R => R J H') wk f v hz (fun H1 _ R k => k H1 (Ex.refl H1)) hG hY hs H (Ex.refl H) Q q
theorem el_lcN (hl : EvL tl σ H ys) (f : Nat → Bool) (v : Nat → V) (hz : ys.length ≤ 40000)
    (hs : ∀ i x H2, Ex H H2 → ys[i]? = some x → ∃ σ2, (∀ k : L2.St → Hp → Prop, k σ2 H2 → g x (wipe σ vs) H2 k) ∧ wipe σ2 vs = wipe σ vs ∧ EvT tt σ2 H2 (f i) ∧ (f i = true → Ev te σ2 H2 (v i))) :
    EvL (tLc (iList K tl) g tt te vs) σ H (given ys.length f v) := fun H0 e Q q =>
  hl H0 e _ fun a H1 _ e1 h1 => ⟨a, rfl, ⟨_, SqL.of h1⟩, lcW (walk_list (K := K) (a := a) (xs := ys)) f v hz (fun H2 e2 => SqL.of (e2 _ _ h1)) (fun i H1 x H2 y => by rw [y.1]; exact Ex.refl _)
    (fun i x H2 H3 hi e2 y => by
      obtain ⟨rfl, y2⟩ := y
      exact hs i x H3 ((e.trans e1).trans e2) y2) fun p H2 np e2 hp => q p H2 (fresh_back e1 np) (e1.trans e2) hp⟩
theorem el_lcT {a : Addr} (ha : H a = some (.tup xs)) (hl : Ev tl σ H (.ref a)) (f : Nat → Bool) (v : Nat → V) (hz : xs.length ≤ 40000)
    (hs : ∀ i x H2, Ex H H2 → xs[i]? = some x → ∃ σ2, (∀ k : L2.St → Hp → Prop, k σ2 H2 → g x (wipe σ vs) H2 k) ∧ wipe σ2 vs = wipe σ vs ∧ EvT tt σ2 H2 (f i) ∧ (f i = true → Ev te σ2 H2 (v i))) :
    EvL (tLc (iTup K tl) g tt te vs) σ H (given xs.length f v) :=
  el_lcW (walk_tup (K := K) (a := a) (xs := xs)) f v hz (fun H1 e R k => hl H1 e _ fun H2 e2 => ⟨a, rfl, ⟨_, SqT.of (e2 _ _ (e _ _ ha))⟩, k H2 e2⟩) (fun H1 e => SqT.of (e _ _ ha)) (fun i H1 x H2 y => by rw [y.1]; exact Ex.refl _)
    fun i x H1 H2 hi e y => by
      obtain ⟨rfl, y2⟩ := y
      exact hs i x H2 e y2
theorem el_lcR {ta : TA} {lo hi : Int} (ha : EvA ta σ H [.int lo, .int hi]) (hb : -(2 ^ 62) ≤ lo ∧ lo < 2 ^ 62 ∧ -(2 ^ 62) ≤ hi ∧ hi < 2 ^ 62) (f : Nat → Bool) (v : Nat → V) (hz : (hi - lo).toNat ≤ 40000)
    (hs : ∀ (i : Nat) H2, Ex H H2 → i < (hi - lo).toNat → ∃ σ2, (∀ k : L2.St → Hp → Prop, k σ2 H2 → g (.int (lo + i)) (wipe σ vs) H2 k) ∧ wipe σ2 vs = wipe σ vs ∧ EvT tt σ2 H2 (f i) ∧ (f i = true → Ev te σ2 H2 (v i))) :
    EvL (tLc (iRng2 ta) g tt te vs) σ H (given (hi - lo).toNat f v) :=
  el_lcW (walk_range (lo := lo) (n := (hi - lo).toNat)) f v hz (fun H1 e R k => ha H1 e _ fun H2 e2 => ⟨lo, hi, rfl, hb, k H2 e2⟩) (fun _ _ => trivial) (fun i H1 x H2 y => by rw [y.1]; exact Ex.refl _)
    fun i x H1 H2 hi e y => by
      obtain ⟨rfl, rfl⟩ := y
      exact hs i H2 e hi
theorem el_lcR1 {ta : TA} {n : Int} (ha : EvA ta σ H [.int n]) (hb : -(2 ^ 62) ≤ n ∧ n < 2 ^ 62) (f : Nat → Bool) (v : Nat → V) (hz : n.toNat ≤ 40000)
    (hs : ∀ (i : Nat) H2, Ex H H2 → i < n.toNat → ∃ σ2, (∀ k : L2.St → Hp → Prop, k σ2 H2 → g (.int (0 + i)) (wipe σ vs) H2 k) ∧ wipe σ2 vs = wipe σ vs ∧ EvT tt σ2 H2 (f i) ∧ (f i = true → Ev te σ2 H2 (v i))) :
    EvL (tLc (iRng1 ta) g tt te vs) σ H (given n.toNat f v) :=
  el_lcW (walk_range (lo := 0) (n := n.toNat)) f v hz (fun H1 e R k => ha H1 e _ fun H2 e2 => ⟨n, rfl, hb.1, hb.2, k H2 e2⟩) (fun _ _ => trivial) (fun i H1 x H2 y => by rw [y.1]; exact Ex.refl _)
    fun i x H1 H2 hi e y => by
      obtain ⟨rfl, rfl⟩ := y
      exact hs i H2 e hi
theorem el_lcRV {r : Addr} {lo hi : Int} (ha : H r = some (.rng lo hi)) (hl : Ev tl σ H (.ref r)) (hb : -(2 ^ 62) ≤ lo ∧ lo < 2 ^ 62 ∧ -(2 ^ 62) ≤ hi ∧ hi < 2 ^ 62) (f : Nat → Bool) (v : Nat → V) (hz : (hi - lo).toNat ≤ 40000)
    (hs : ∀ (i : Nat) H2, Ex H H2 → i < (hi - lo).toNat → ∃ σ2, (∀ k : L2.St → Hp → Prop, k σ2 H2 → g (.int (lo + i)) (wipe σ vs) H2 k) ∧ wipe σ2 vs = wipe σ vs ∧ EvT tt σ2 H2 (f i) ∧ (f i = true → Ev te σ2 H2 (v i))) :
    EvL (tLc (iRngV tl) g tt te vs) σ H (given (hi - lo).toNat f v) :=
  el_lcW (walk_range (lo := lo) (n := (hi - lo).toNat)) f v hz (fun H1 e R k => hl H1 e _ fun H2 e2 => ⟨r, lo, hi, rfl, e2 _ _ (e _ _ ha), hb, k H2 e2⟩) (fun _ _ => trivial) (fun i H1 x H2 y => by rw [y.1]; exact Ex.refl _)
    fun i x H1 H2 hi e y => by
      obtain ⟨rfl, rfl⟩ := y
      exact hs i H2 e hi
/-- over enumerate of a tuple: at the turn a new pair -/
theorem el_lcE {a : Addr} {ta : TA} (ha : H a = some (.tup xs)) (hl : EvA ta σ H [.ref a]) (f : Nat → Bool) (v : Nat → V) (hz : xs.length ≤ 40000)
    (hs : ∀ (i : Nat) x T H2, Ex H H2 → xs[i]? = some x → H2 T = some (.tup [.int (i : Nat), x]) → ∃ σ2, (∀ k : L2.St → Hp → Prop, k σ2 H2 → g (.ref T) (wipe σ vs) H2 k) ∧ wipe σ2 vs = wipe σ vs ∧ EvT tt σ2 H2 (f i) ∧ (f i = true → Ev te σ2 H2 (v i))) :
    EvL (tLc (iEnumT K ta) g tt te vs) σ H (given xs.length f v) :=
  el_lcW (walk_enumT (K := K) (a := a) (xs := xs)) f v hz (fun H1 e R k => hl H1 e _ fun H2 e2 => ⟨a, xs, rfl, SqT.of (e2 _ _ (e _ _ ha)), k H2 e2⟩) (fun H1 e => SqT.of (e _ _ ha))
    (fun i H1 x H2 y => by
      obtain ⟨T, _, _, rfl, nT, rfl, _, _⟩ := y
      exact Ex.new nT)
    fun i x H1 H2 hi e y => by
      obtain ⟨T, _, x2, rfl, nT, rfl, e1, e2⟩ := y
      cases e1
      exact hs i x2 T _ (e.trans (Ex.new nT)) e2 upd_same
/-- over zip of two tuples, made on the way or not -/
theorem el_lcZ {ta : TA} (hl : ∀ H1, Ex H H1 → ∀ Q : List V → Hp → Prop, (∀ a b H2, Ex H1 H2 → H2 a = some (.tup xs) → H2 b = some (.tup ys) → Q [.ref a, .ref b] H2) → ta σ H1 Q) (f : Nat → Bool) (v : Nat → V) (hz : min xs.length ys.length ≤ 40000)
    (hs : ∀ (i : Nat) x y T H2, Ex H H2 → xs[i]? = some x → ys[i]? = some y → H2 T = some (.tup [x, y]) → ∃ σ2, (∀ k : L2.St → Hp → Prop, k σ2 H2 → g (.ref T) (wipe σ vs) H2 k) ∧ wipe σ2 vs = wipe σ vs ∧ EvT tt σ2 H2 (f i) ∧ (f i = true → Ev te σ2 H2 (v i))) :
    EvL (tLc (iZipA K ta) g tt te vs) σ H (given (min xs.length ys.length) f v) := fun H0 e Q q =>
  hl H0 e _ fun a b H1 e1 ha hb => ⟨a, b, xs, ys, rfl, .inr ⟨SqT.of ha, SqT.of hb, lcW (walk_zipT (K := K) rfl) f v hz (fun H2 e2 => ⟨SqT.of (e2 _ _ ha), SqT.of (e2 _ _ hb)⟩)
    (fun i H1 x H2 y => by
      obtain ⟨T, _, _, rfl, nT, rfl, _, _⟩ := y
      exact Ex.new nT)
    (fun i x H2 H3 hi e2 y => by
      obtain ⟨T, x1, x2, rfl, nT, rfl, h1, h2⟩ := y
      exact hs i x1 x2 T _ (((e.trans e1).trans e2).trans (Ex.new nT)) h1 h2 upd_same)
    fun p H2 np e2 hp => q p H2 (fresh_back e1 np) (e1.trans e2) hp⟩⟩
/-- over zip of two lists -/
theorem el_lcZL {ta : TA} (hl : ∀ H1, Ex H H1 → ∀ Q : List V → Hp → Prop, (∀ a b H2, Ex H1 H2 → H2 a = some (.lst xs) → H2 b = some (.lst ys) → Q [.ref a, .ref b] H2) → ta σ H1 Q) (f : Nat → Bool) (v : Nat → V) (hz : min xs.length ys.length ≤ 40000)
    (hs : ∀ (i : Nat) x y T H2, Ex H H2 → xs[i]? = some x → ys[i]? = some y → H2 T = some (.tup [x, y]) → ∃ σ2, (∀ k : L2.St → Hp → Prop, k σ2 H2 → g (.ref T) (wipe σ vs) H2 k) ∧ wipe σ2 vs = wipe σ vs ∧ EvT tt σ2 H2 (f i) ∧ (f i = true → Ev te σ2 H2 (v i))) :
    EvL (tLc (iZipA K ta) g tt te vs) σ H (given (min xs.length ys.length) f v) := fun H0 e Q q =>
  hl H0 e _ fun a b H1 e1 ha hb => ⟨a, b, xs, ys, rfl, .inl ⟨SqL.of ha, SqL.of hb, lcW (walk_zip (K := K) rfl) f v hz (fun H2 e2 => ⟨SqL.of (e2 _ _ ha), SqL.of (e2 _ _ hb)⟩)
    (fun i H1 x H2 y => by
      obtain ⟨T, _, _, rfl, nT, rfl, _, _⟩ := y
      exact Ex.new nT)
    (fun i x H2 H3 hi e2 y => by
      obtain ⟨T, x1, x2, rfl, nT, rfl, h1, h2⟩ := y
      exact hs i x1 x2 T _ (((e.trans e1).trans e2).trans (Ex.new nT)) h1 h2 upd_same)
    fun p H2 np e2 hp => q p H2 (fresh_back e1 np) (e1.trans e2) hp⟩⟩
/-- tuple(list made on the way) -/
theorem r_tupL {r : Prop} {xs : List V} {H : Hp} {Q : VK} {p : Addr} (hp : H p = some (.lst xs)) (q : ∀ l H2, H l = none → Ex H H2 → H2 l = some (.tup xs) → Q (.ref l) H2) :
    ∃ a ys, [V.ref p] = [V.ref a] ∧ ((SqL K H a ys ∧ ∀ l, H l = none → Q (.ref l) (upd H l (.tup ys))) ∨ (SqT K H a ys ∧ Q (.ref a) H)) :=
  ⟨p, xs, rfl, .inl ⟨SqL.of hp, fun l hl => q l _ hl (Ex.new hl) upd_same⟩⟩
theorem two_get {H : Hp} {T : Addr} {x y : V} {i j : Nat} {σ : L2.St} {k : L2.St → Hp → Prop} (h : H T = some (.tup [x, y])) (q : k ((σ.set i (some x)).set j (some y)) H) : gTup K 2 (gCons (gName i) (gCons (gName j) gNil)) (.ref T) σ H k :=
  ⟨T, [x, y], rfl, .inl (.inl h), rfl, _, _, rfl, _, _, rfl, rfl, q⟩
end
section
variable {K : PySem.W.Frag} {σ : L2.St} {H : Hp} {Q : VK} {te : TE} {tr : TA} {D : Ends} {trs : List (TE × TE)} {i j : Nat}
theorem r_disp (h : ∀ p, H p = none → tPairs trs σ (upd H p (.dK [])) fun ps H2 => H2 p = some (.dK []) ∧ ∃ kvs : List (Key × V), ps = kvs.map (fun kv => (kV kv.1, kv.2)) ∧ kvs.length ≤ 15 ∧ Q (.ref p) (upd H2 p (.dK (mergeK [] kvs)))) : tDisp trs σ H Q := h
theorem r_pairC {v : V} {Q : List (V × V) → Hp → Prop} (h : te σ H fun y H2 => tPairs trs σ H2 fun ps H3 => Q ((v, y) :: ps) H3) : tPairs ((tC v, te) :: trs) σ H Q := h
theorem r_revL (h : te σ H fun x H1 => ∃ a xs, x = .ref a ∧ SqL K H1 a xs ∧ ∀ p, H1 p = none → Q (.ref p) (upd H1 p (.lst xs.reverse))) : tRevL K te σ H Q := h
theorem r_tup (h : tr σ H fun xs H1 => xs.length ≤ sizeLine ∧ ∀ p, H1 p = none → Q (.ref p) (upd H1 p (.tup xs))) : tTup tr σ H Q := h
theorem r_lst (h : tr σ H fun xs H1 => xs.length ≤ sizeLine ∧ ∀ p, H1 p = none → Q (.ref p) (upd H1 p (.lst xs))) : tLst tr σ H Q := h
theorem r_nil {Q : List V → Hp → Prop} (h : Q [] H) : tNil σ H Q := h
theorem r_call {sp : Sp} {dvs : List V} {E : XK} (h : tr σ H fun vs H1 => sp (vs ++ dvs) H1 Q E) : tCall sp dvs E tr σ H Q := h
theorem r_callN {sp : Sp} {g : List V → List V → List V} {E : XK} (h : tr σ H fun zs H2 => sp (g [] zs) H2 Q E) : tCallN sp g E tr σ H Q := h
theorem r_var {v : V} (e : σ[i]? = some (some v)) (h : Q v H) : tVar i σ H Q := ⟨v, e, h⟩
theorem r_c {v : V} (h : Q v H) : tC v σ H Q := h
theorem r_drop (h : te σ H fun _ H1 => D.nx σ H1) : tDrop te D σ H := h
theorem r_slice {r : V → Option Int → Option Int → Hp → VK → Prop} {tl th : TO} (h : te σ H fun x H1 => tl σ H1 fun l H2 => th σ H2 fun u H3 => r x l u H3 Q) : tSl r te tl th σ H Q := h
/-- a list of tuples of a kind, made on the way -/
def TupR (R : List V → Prop) (H : Hp) (y : V) : Prop := ∃ c us, y = .ref c ∧ H c = some (.tup us) ∧ R us
theorem TupR.up {R : List V → Prop} {H H' : Hp} {y : V} (e : Ex H H') (h : TupR R H y) : TupR R H' y := by
  obtain ⟨c, us, rfl, hc, r⟩ := h
  exact ⟨c, us, rfl, e _ _ hc, r⟩
theorem TupR.upd {R : List V → Prop} {H : Hp} {y : V} {D : Addr} {xs ys : List V} (hD : H D = some (.lst xs)) (h : TupR R H y) : TupR R (upd H D (.lst ys)) y := by
  obtain ⟨c, us, rfl, hc, r⟩ := h
  exact ⟨c, us, rfl, by rw [upd_ne (ne_of hc hD (by intro z; cases z))]; exact hc, r⟩
theorem lcU {J : It} {n : Nat} {G : Hp → Prop} {Y : Nat → Hp → V → Hp → Prop} {g : TG} {tt : TT} {te : TE} {vs : List Nat} {R : List V → Prop} (wk : Walk J n G Y) (f : Nat → Bool) (hz : n ≤ 40000)
    (hG : ∀ H1, Ex H H1 → G H1) (hY : ∀ i H1 x H2, Y i H1 x H2 → Ex H1 H2)
    (hs : ∀ i x H1 H2, i < n → Ex H H1 → Y i H1 x H2 → ∃ σ2, (∀ k : L2.St → Hp → Prop, k σ2 H2 → g x (wipe σ vs) H2 k) ∧ wipe σ2 vs = wipe σ vs ∧ EvT tt σ2 H2 (f i) ∧
      (f i = true → ∀ H3, Ex H2 H3 → ∀ Q3 : VK, (∀ c us H4, Ex H3 H4 → H4 c = some (.tup us) → R us → Q3 (.ref c) H4) → te σ2 H3 Q3))
    (q : ∀ p H2 ys, H p = none → Ex H H2 → H2 p = some (.lst ys) → ys.length = ((List.range n).filter f).length → (∀ y ∈ ys, TupR R H2 y) → Q (.ref p) H2) : tLc (fun _ H' R => R J H') g tt te vs σ H Q := by
  intro D hD
  refine lc_it wk (fun i H2 => Ex H H2 ∧ ∃ ys, H2 D = some (.lst ys) ∧ ys.length = ((List.range i).filter f).length ∧ ys.length ≤ i ∧ ∀ y ∈ ys, TupR R H2 y)
    ⟨Ex.new hD, [], upd_same, rfl, Nat.le_refl _, fun y hy => absurd hy (by simp)⟩ (fun i H2 _ p => hG H2 p.1) (fun i x H2 H3 hi p y => ?_) (fun H2 p => ?_)
  · have e3 := hY i H2 x H3 y
    obtain ⟨σ2, hk, hw, ht, he⟩ := hs i x H2 H3 hi p.1 y
    obtain ⟨p1, ys, hy, hl, hl2, hr⟩ := p
    refine hk _ ⟨hw, ht H3 (Ex.refl H3) _ fun H4 e4 => ?_⟩
    rw [List.range_succ, List.filter_append, List.length_append]
    cases hf : f i with
    | true =>
      show te σ2 H4 _
      refine he hf H4 e4 _ fun c us H5 e5 hc hR => ⟨ys, e5 _ _ (e4 _ _ (e3 _ _ hy)), sz_lt (by omega), Ex.mut (((p1.trans e3).trans e4).trans e5) hD, ys ++ [.ref c], upd_same, ?_, ?_, ?_⟩
      · rw [List.length_append, List.filter_cons, if_pos hf, hl]
        rfl
      · rw [List.length_append]
        show ys.length + 1 ≤ i + 1
        omega
      · intro y hy2
        have hD5 := e5 _ _ (e4 _ _ (e3 _ _ hy))
        refine TupR.upd hD5 ?_
        rcases List.mem_append.mp hy2 with h | h
        · exact TupR.up ((e3.trans e4).trans e5) (hr y h)
        · cases List.mem_singleton.mp h
          exact ⟨c, us, rfl, hc, hR⟩
    | false =>
      refine ⟨(p1.trans e3).trans e4, ys, e4 _ _ (e3 _ _ hy), ?_, by omega, fun y h => TupR.up (e3.trans e4) (hr y h)⟩
      rw [List.filter_cons, if_neg (by rw [hf]; exact Bool.false_ne_true), hl]
      rfl
  · obtain ⟨p1, ys, hy, hl, _, hr⟩ := p
    exact q D H2 ys hD p1 hy hl hr
end
section
variable {K : PySem.W.Frag} {σ : L2.St} {H : Hp} {Q : VK} {te : TE} {g : TG} {tt : TT} {vs : List Nat} {xs : List V} {ta : TA} {R : List V → Prop}
theorem u_lcE {a : Addr} (ha : H a = some (.tup xs)) (hl : EvA ta σ H [.ref a]) (f : Nat → Bool) (hz : xs.length ≤ 40000)
    (hs : ∀ (i : Nat) x T H2, Ex H H2 → xs[i]? = some x → H2 T = some (.tup [.int (i : Nat), x]) → ∃ σ2, (∀ k : L2.St → Hp → Prop, k σ2 H2 → g (.ref T) (wipe σ vs) H2 k) ∧ wipe σ2 vs = wipe σ vs ∧ EvT tt σ2 H2 (f i) ∧
      (f i = true → ∀ H3, Ex H2 H3 → ∀ Q3 : VK, (∀ c us H4, Ex H3 H4 → H4 c = some (.tup us) → R us → Q3 (.ref c) H4) → te σ2 H3 Q3))
    (q : ∀ p H2 ys, H p = none → Ex H H2 → H2 p = some (.lst ys) → ys.length = ((List.range xs.length).filter f).length → (∀ y ∈ ys, TupR R H2 y) → Q (.ref p) H2) : tLc (iEnumT K ta) g tt te vs σ H Q :=
  hl H (Ex.refl H) _ fun H1 e1 => ⟨a, xs, rfl, SqT.of (e1 _ _ ha), lcU (walk_enumT (K := K) (a := a) (xs := xs)) f hz (fun H2 e2 => SqT.of (e2 _ _ (e1 _ _ ha)))
    (fun i H1 x H2 y => by
      obtain ⟨T, _, _, rfl, nT, rfl, _, _⟩ := y
      exact Ex.new nT)
    (fun i x H2 H3 hi e2 y => by
      obtain ⟨T, _, x2, rfl, nT, rfl, h1, h2⟩ := y
      cases h1
      exact hs i x2 T _ ((e1.trans e2).trans (Ex.new nT)) h2 upd_same)
    fun p H2 ys np e2 hp => q p H2 ys (fresh_back e1 np) (e1.trans e2) hp⟩
theorem u_lcR {lo hi : Int} (ha : EvA ta σ H [.int lo, .int hi]) (hb : -(2 ^ 62) ≤ lo ∧ lo < 2 ^ 62 ∧ -(2 ^ 62) ≤ hi ∧ hi < 2 ^ 62) (f : Nat → Bool) (hz : (hi - lo).toNat ≤ 40000)
    (hs : ∀ (i : Nat) H2, Ex H H2 → i < (hi - lo).toNat → ∃ σ2, (∀ k : L2.St → Hp → Prop, k σ2 H2 → g (.int (lo + i)) (wipe σ vs) H2 k) ∧ wipe σ2 vs = wipe σ vs ∧ EvT tt σ2 H2 (f i) ∧
      (f i = true → ∀ H3, Ex H2 H3 → ∀ Q3 : VK, (∀ c us H4, Ex H3 H4 → H4 c = some (.tup us) → R us → Q3 (.ref c) H4) → te σ2 H3 Q3))
    (q : ∀ p H2 ys, H p = none → Ex H H2 → H2 p = some (.lst ys) → ys.length = ((List.range (hi - lo).toNat).filter f).length → (∀ y ∈ ys, TupR R H2 y) → Q (.ref p) H2) : tLc (iRng2 ta) g tt te vs σ H Q :=
  ha H (Ex.refl H) _ fun H1 e1 => ⟨lo, hi, rfl, hb, lcU (walk_range (lo := lo) (n := (hi - lo).toNat)) f hz (fun _ _ => trivial) (fun i H1 x H2 y => by rw [y.1]; exact Ex.refl _)
    (fun i x H2 H3 hi e2 y => by
      obtain ⟨rfl, rfl⟩ := y
      exact hs i _ (e1.trans e2) hi)
    fun p H2 ys np e2 hp => q p H2 ys (fresh_back e1 np) (e1.trans e2) hp⟩
end
/-- over enumerate of a tuple made on the way -/
theorem el_lcEN {K : PySem.W.Frag} {σ : L2.St} {H : Hp} {te : TE} {g : TG} {tt : TT} {vs : List Nat} {xs : List V} {ta : TA} (hl : ∀ H1, Ex H H1 → ∀ Q : List V → Hp → Prop, (∀ a H2, Ex H1 H2 → H2 a = some (.tup xs) → Q [.ref a] H2) → ta σ H1 Q) (f : Nat → Bool) (v : Nat → V) (hz : xs.length ≤ 40000)
    (hs : ∀ (i : Nat) x T H2, Ex H H2 → xs[i]? = some x → H2 T = some (.tup [.int (i : Nat), x]) → ∃ σ2, (∀ k : L2.St → Hp → Prop, k σ2 H2 → g (.ref T) (wipe σ vs) H2 k) ∧ wipe σ2 vs = wipe σ vs ∧ EvT tt σ2 H2 (f i) ∧ (f i = true → Ev te σ2 H2 (v i))) :
    EvL (tLc (iEnumT K ta) g tt te vs) σ H (given xs.length f v) := fun H0 e Q q =>
  hl H0 e _ fun a H1 e1 ha => ⟨a, xs, rfl, SqT.of ha, lcW (walk_enumT (K := K) (a := a) (xs := xs)) f v hz (fun H2 e2 => SqT.of (e2 _ _ ha))
    (fun i H1 x H2 y => by
      obtain ⟨T, _, _, rfl, nT, rfl, _, _⟩ := y
      exact Ex.new nT)
    (fun i x H2 H3 hi e2 y => by
      obtain ⟨T, _, x2, rfl, nT, rfl, h1, h2⟩ := y
      cases h1
      exact hs i x2 T _ (((e.trans e1).trans e2).trans (Ex.new nT)) h2 upd_same)
    fun p H2 np e2 hp => q p H2 (fresh_back e1 np) (e1.trans e2) hp⟩
theorem q_bl {Q : VK} {H : Hp} {b c : Bool} (e : b = c) (h : Q (.bl c) H) : Q (.bl b) H := by
  rw [e]
  exact h
theorem q_int {Q : VK} {H : Hp} {b c : Int} (e : b = c) (h : Q (.int c) H) : Q (.int b) H := by
  rw [e]
  exact h
end Hr

/-! Data whose repr is short enough to be told. -/
namespace Hr
open PySem PySem.Spec PyProof.Rows L2 Evl
structure Fine (d : PyData) (n : Nat) : Prop where
  show1 : d.showable = true
  nod : d.hasDict = false
  leaf : d.leavesShort 1921 = true
  dep : d.depth ≤ 30
  bulk : d.bulk ≤ n
structure FineL (ds : List PyData) (n : Nat) : Prop where
  show1 : PyData.showableAll ds = true
  nod : PyData.hasDictAll ds = false
  leaf : PyData.leavesShortAll 1921 ds = true
  dep : PyData.depthAll ds ≤ 20
  bulk : PyData.bulkAll ds ≤ n
section
variable {d : PyData} {ds es : List PyData} {n m : Nat}
theorem FineL.nil : FineL [] 0 := ⟨rfl, rfl, rfl, Nat.zero_le _, Nat.le_refl 0⟩
theorem FineL.cons (h : Fine d n) (hd : d.depth ≤ 20) (t : FineL ds m) : FineL (d :: ds) (n + 1 + m) := by
  refine ⟨?_, ?_, ?_, ?_, ?_⟩
  · simp only [PyData.showableAll, h.show1, t.show1, Bool.and_self]
  · simp only [PyData.hasDictAll, h.nod, t.nod, Bool.or_self]
  · simp only [PyData.leavesShortAll, h.leaf, t.leaf, Bool.and_self]
  · simp only [PyData.depthAll]
    exact Nat.max_le.mpr ⟨hd, t.dep⟩
  · simp only [PyData.bulkAll]
    have := h.bulk
    have := t.bulk
    omega
theorem FineL.up (h : FineL ds n) (e : n ≤ m) : FineL ds m := ⟨h.show1, h.nod, h.leaf, h.dep, Nat.le_trans h.bulk e⟩
theorem Fine.up (h : Fine d n) (e : n ≤ m) : Fine d m := ⟨h.show1, h.nod, h.leaf, h.dep, Nat.le_trans h.bulk e⟩
theorem FineL.tup (h : FineL ds n) : Fine (.tuple ds) n := by
  refine ⟨?_, ?_, ?_, ?_, ?_⟩
  · simpa only [PyData.showable] using h.show1
  · simpa only [PyData.hasDict] using h.nod
  · simpa only [PyData.leavesShort] using h.leaf
  · have := h.dep
    simp only [PyData.depth]
    omega
  · simpa only [PyData.bulk] using h.bulk
theorem FineL.lst (h : FineL ds n) : Fine (.list ds) n := by
  refine ⟨?_, ?_, ?_, ?_, ?_⟩
  · simpa only [PyData.showable] using h.show1
  · simpa only [PyData.hasDict] using h.nod
  · simpa only [PyData.leavesShort] using h.leaf
  · have := h.dep
    simp only [PyData.depth]
    omega
  · simpa only [PyData.bulk] using h.bulk
theorem Fine.int {i : Int} (h : i.natAbs.log2 < 1920) : Fine (.int i) 0 := by
  refine ⟨decide_eq_true h, rfl, ?_, Nat.zero_le _, Nat.le_refl 0⟩
  simp only [PyData.leavesShort, decide_eq_true_eq]
  exact int_text_len_1921 h
theorem Fine.bool (b : Bool) : Fine (.bool b) 0 := ⟨rfl, rfl, rfl, Nat.zero_le _, Nat.le_refl 0⟩
theorem Fine.none : Fine .none 0 := ⟨rfl, rfl, rfl, Nat.zero_le _, Nat.le_refl 0⟩
theorem FineL.ints : ∀ xs : List Int, (∀ x ∈ xs, x.natAbs.log2 < 1920) → FineL (xs.map PyData.int) xs.length
  | [], _ => FineL.nil
  | x :: xs, h => by
    have ih := FineL.ints xs fun y hy => h y (List.mem_cons_of_mem _ hy)
    have z := FineL.cons (Fine.int (h x List.mem_cons_self)) (Nat.zero_le _) ih
    exact z.up (by rw [List.length_cons]; omega)
theorem Fine.len (h : Fine d n) (e : n ≤ 8000) : d.shown.length ≤ sizeLine := by
  have h1 := PyData.shown_le_bulk 1921 (by decide) d h.leaf
  have h2 := h.bulk
  have h3 : sizeLine = 16777216 := by decide
  have h4 : (1921 + 2) * d.bulk ≤ 1923 * 8000 := Nat.mul_le_mul (Nat.le_refl _) (by omega)
  omega
variable {K : PySem.W.Frag} {H : Hp} {a : Addr} {Q : VK}
/-- repr of such data -/
theorem r_repr (h : Dp K H (.ref a) d) (f : Fine d 8000) (q : Q (.str d.shown) H) : rRepr K [.ref a] H Q :=
  ⟨a, d, rfl, h, f.show1, f.nod, Nat.le_trans f.dep (by decide), f.len (Nat.le_refl _), q⟩
theorem ints_all : ∀ xs : List Int, DpAll K H (xs.map V.int) (xs.map PyData.int)
  | [] => .nil
  | x :: xs => .cons (.int x) (ints_all xs)
theorem tup_dp {xs : List Int} (h : SqT K H a (xs.map V.int)) : Dp K H (.ref a) (.tuple (xs.map PyData.int)) := .tup h (ints_all xs)
end
end Hr
namespace Hr
open PySem
theorem Fine.d40 {d : PyData} {n : Nat} (f : Fine d n) : d.depth ≤ 40 := Nat.le_trans f.dep (by decide)
end Hr

/-! Any value, dicts too, as data: what repr tells of it, and what it is equal to. -/
namespace Hr
open PySem PySem.Spec PyProof.Rows L2 Evl LamX
def kyD : Key → PyData
  | .inl i => .int i
  | .inr x => .str x
mutual
inductive Dx (H : Hp) : V → PyData → Prop
  | non : Dx H .non .none
  | bl (b : Bool) : Dx H (.bl b) (.bool b)
  | int (i : Int) : Dx H (.int i) (.int i)
  | str (x : Str) : Dx H (.str x) (.str x)
  | lst {a : Addr} {xs : List V} {ds : List PyData} : H a = some (.lst xs) → DxA H xs ds → Dx H (.ref a) (.list ds)
  | tup {a : Addr} {xs : List V} {ds : List PyData} : H a = some (.tup xs) → DxA H xs ds → Dx H (.ref a) (.tuple ds)
  | dct {a : Addr} {kvs : List (Key × V)} {es : List (PyData × PyData)} : H a = some (.dK kvs) → DxK H kvs es → Dx H (.ref a) (.dict es)
inductive DxA (H : Hp) : List V → List PyData → Prop
  | nil : DxA H [] []
  | cons {v : V} {vs : List V} {d : PyData} {ds : List PyData} : Dx H v d → DxA H vs ds → DxA H (v :: vs) (d :: ds)
inductive DxK (H : Hp) : List (Key × V) → List (PyData × PyData) → Prop
  | nil : DxK H [] []
  | cons {k : Key} {v : V} {kvs : List (Key × V)} {d : PyData} {es : List (PyData × PyData)} : Dx H v d → DxK H kvs es → DxK H ((k, v) :: kvs) ((kyD k, d) :: es)
end
section
variable {H H' : Hp}
mutual
theorem Dx.moreN (e : ExtN H H') : ∀ {v : V} {d : PyData}, Dx H v d → Dx H' v d
  | _, _, .non => .non
  | _, _, .bl b => .bl b
  | _, _, .int i => .int i
  | _, _, .str x => .str x
  | _, _, .lst h t => .lst (e _ _ h (fun _ z => by cases z)) (DxA.moreN e t)
  | _, _, .tup h t => .tup (e _ _ h (fun _ z => by cases z)) (DxA.moreN e t)
  | _, _, .dct h t => .dct (e _ _ h (fun _ z => by cases z)) (DxK.moreN e t)
theorem DxA.moreN (e : ExtN H H') : ∀ {v : List V} {d : List PyData}, DxA H v d → DxA H' v d
  | _, _, .nil => .nil
  | _, _, .cons h t => .cons (Dx.moreN e h) (DxA.moreN e t)
theorem DxK.moreN (e : ExtN H H') : ∀ {v : List (Key × V)} {d : List (PyData × PyData)}, DxK H v d → DxK H' v d
  | _, _, .nil => .nil
  | _, _, .cons h t => .cons (Dx.moreN e h) (DxK.moreN e t)
end
theorem Dx.more (e : Ex H H') {v : V} {d : PyData} (h : Dx H v d) : Dx H' v d := h.moreN (.of e)
theorem DxA.more (e : Ex H H') {v : List V} {d : List PyData} (h : DxA H v d) : DxA H' v d := h.moreN (.of e)
theorem DxA.ints : ∀ ns : List Int, DxA H (ns.map V.int) (ns.map PyData.int)
  | [] => .nil
  | n :: ns => .cons (.int n) (DxA.ints ns)
theorem DxA.len : ∀ {vs : List V} {ds : List PyData}, DxA H vs ds → vs.length = ds.length
  | _, _, .nil => rfl
  | _, _, .cons _ t => by rw [List.length_cons, List.length_cons, t.len]
theorem DxA.app : ∀ {vs ws : List V} {ds es : List PyData}, DxA H vs ds → DxA H ws es → DxA H (vs ++ ws) (ds ++ es)
  | _, _, _, _, .nil, g => g
  | _, _, _, _, .cons h t, g => .cons h (t.app g)
theorem DxA.take : ∀ {vs : List V} {ds : List PyData} (n : Nat), DxA H vs ds → DxA H (vs.take n) (ds.take n)
  | _, _, 0, _ => .nil
  | _, _, _ + 1, .nil => .nil
  | _, _, n + 1, .cons h t => .cons h (DxA.take n t)
theorem DxA.drop : ∀ {vs : List V} {ds : List PyData} (n : Nat), DxA H vs ds → DxA H (vs.drop n) (ds.drop n)
  | _, _, 0, h => h
  | _, _, _ + 1, .nil => .nil
  | _, _, n + 1, .cons _ t => DxA.drop n t
theorem DxA.at : ∀ {vs : List V} {ds : List PyData}, DxA H vs ds → ∀ {i : Nat} {v : V}, vs[i]? = some v → ∃ d, ds[i]? = some d ∧ Dx H v d
  | _, _, .nil, i, v, h => by simp at h
  | _, _, .cons (d := d) hd t, 0, v, h => by
    cases h
    exact ⟨d, rfl, hd⟩
  | _, _, .cons hd t, i + 1, v, h => DxA.at t (by simpa using h)
end
section
variable {X : Cx} {pins : List (Addr × Obj)} {σ : L2.St} {H : Hp} {s : Shared}
/-- a value at s: it is read so, and its text is told so -/
def Told (P : Program) (w : World) (h : Heap) (u : Value) (d : PyData) : Prop := ∃ as bs, Reads h u d as ∧ ReadAtMost h d.depth bs ∧ ReprK P w bs h d.depth u d.shown
def ToldA (P : Program) (w : World) (h : Heap) (us : List Value) (ds : List PyData) : Prop :=
  ∃ as bs, ReadsAll h us ds as ∧ ReadAtMost h (PyData.depthAll ds) bs ∧ ReprAllK P w bs h (PyData.depthAll ds) us (PyData.shownAll ds)
theorem told_flat {P : Program} {w : World} {h : Heap} {u : Value} {d : PyData} {as : List Addr} (r : Reads h u d as) (hs : d.showable = true) (hn : d.hasDict = false) (hz : d.shown.length ≤ sizeLine) : Told P w h u d := by
  obtain ⟨bs, h1, h2⟩ := ReprK.of_reads (prog := P) (w := w) r hs (fun z => by rw [hn] at z; cases z) hz
  exact ⟨_, bs, r, h1, h2⟩
theorem told_nil {P : Program} {w : World} {h : Heap} : ToldA P w h [] [] := ⟨[], [], .nil, (fun _ z => nomatch z), by simp only [PyData.shownAll]; exact .nil⟩
theorem told_cons {P : Program} {w : World} {h : Heap} {u : Value} {us : List Value} {d : PyData} {ds : List PyData} (a : Told P w h u d) (b : ToldA P w h us ds) : ToldA P w h (u :: us) (d :: ds) := by
  obtain ⟨as1, b1, r1, m1, k1⟩ := a
  obtain ⟨as2, b2, r2, m2, k2⟩ := b
  have e1 : d.depth ≤ PyData.depthAll (d :: ds) := by simp only [PyData.depthAll]; exact Nat.le_max_left _ _
  have e2 : PyData.depthAll ds ≤ PyData.depthAll (d :: ds) := by simp only [PyData.depthAll]; exact Nat.le_max_right _ _
  refine ⟨as1 ++ as2, b1 ++ b2, .cons r1 r2, fun b hm => ?_, ?_⟩
  · rcases List.mem_append.mp hm with z | z
    · obtain ⟨x, y, q, l⟩ := m1 b z
      exact ⟨x, y, q, Nat.le_trans l e1⟩
    · obtain ⟨x, y, q, l⟩ := m2 b z
      exact ⟨x, y, q, Nat.le_trans l e2⟩
  · have q1 : ReprK P w (b1 ++ b2) h (PyData.depthAll (d :: ds)) u d.shown := (k1.more fun b z => List.mem_append_left _ z).level_le e1
    have q2 : ReprAllK P w (b1 ++ b2) h (PyData.depthAll (d :: ds)) us (PyData.shownAll ds) := k2.more_le (fun b z => List.mem_append_right _ z) e2
    have q : PyData.shownAll (d :: ds) = d.shown :: PyData.shownAll ds := by simp only [PyData.shownAll]
    rw [q]
    exact .cons q1 q2
/-- the keys of a dict are read -/
theorem keys_read {P : Program} {w : World} {h : Heap} : ∀ {kvs : List (Key × V)} {vs : List (Key × Value)} {ents : List DictEntry} {es : List (PyData × PyData)}, DxK H kvs es → KV kvs vs → PySem.Pairs (mixKind P w) ents vs →
    ∃ as, ReadsAll h (ents.map (·.key)) (es.map (·.1)) as ∧ PyData.hasDictAll (es.map (·.1)) = false ∧ Vals (kvs.map (·.2)) (ents.map (·.val))
  | _, _, _, _, .nil, .nil, .nil => ⟨[], .nil, by simp [PyData.hasDictAll], .nil⟩
  | _, _, _, _, .cons (k := k) hd t, .cons r rs, .cons (e := ent) h1 h2 ps => by
    obtain ⟨as, q1, q2, q3⟩ := keys_read (h := h) t rs ps
    obtain ⟨e1, e2⟩ := r
    have h1' : keyIs k ent.key = true := by
      rw [show k = _ from e1]
      exact h1
    have rk : ∃ as1, Reads h ent.key (kyD k) as1 ∧ (kyD k).hasDict = false := by
      rcases keyIs_shape h1' with ⟨i, tk, e3, e4⟩ | ⟨x, tk, e3, e4⟩
      · rw [e3, e4]
        exact ⟨_, .int i tk, by simp [kyD, PyData.hasDict]⟩
      · rw [e3, e4]
        exact ⟨_, .str x tk, by simp [kyD, PyData.hasDict]⟩
    obtain ⟨as1, k1, k2⟩ := rk
    refine ⟨as1 ++ as, .cons k1 q1, ?_, .cons ?_ q3⟩
    · simp only [List.map_cons, PyData.hasDictAll, k2, q2, Bool.or_self]
    · show L2.RelV _ ent.val
      rw [h2]
      exact e2
mutual
theorem Dx.told (I : Inv X pins σ H s) : ∀ {v : V} {d : PyData} {u : Value}, Dx H v d → RelV v u → d.showable = true → d.shown.length ≤ sizeLine → Told X.prog X.w s.heap u d
  | _, _, _, .non, r, hs, hz => by
    cases r
    exact told_flat .none hs rfl hz
  | _, _, _, .bl b, r, hs, hz => by
    cases r
    exact told_flat (.bool b) hs rfl hz
  | _, _, _, .int i, r, hs, hz => by
    obtain ⟨t, rfl⟩ := r
    exact told_flat (.int i t) hs rfl hz
  | _, _, _, .str x, r, hs, hz => by
    obtain ⟨t, rfl⟩ := r
    exact told_flat (.str x t) hs rfl hz
  | _, _, _, .lst (ds := ds) h t, r, hs, hz => by
    cases r
    obtain ⟨its, rv, ⟨o, n, ho, hc, hx, hd⟩, _⟩ := I.list (SqL.of h)
    have hz' : (listText (PyData.shownAll ds)).length ≤ sizeLine := by simpa only [PyData.shown] using hz
    obtain ⟨as, bs, q1, q2, q3⟩ := DxA.told I t rv (by simpa [PyData.showable] using hs) fun x hx => Nat.le_trans (listText_mem_le hx) hz'
    have rd := Reads.list ho hc hd (by simpa using q1)
    have na := not_mem_of_deeper rd (show PyData.depthAll ds < (PyData.list ds).depth by simp only [PyData.depth]; omega) q2
    refine ⟨_, _ :: bs, rd, ReadAtMost.cons rd (Nat.le_refl _) (fun b hb => let ⟨x, y, z, l⟩ := q2 b hb; ⟨x, y, z, by simp only [PyData.depth]; omega⟩), ?_⟩
    simp only [PyData.shown]
    cases its with
    | nil =>
      have e' : ds = [] := by
        have e0 := q3.length_eq
        cases ds with
        | nil => rfl
        | cons d ds => simp [PyData.shownAll] at e0
      subst e'
      simp only [PyData.shownAll, listText_nil, PyData.depth]
      exact ReprK.listEmpty ho hc hd
    | cons x l =>
      simp only [PyData.depth]
      exact ReprK.list ho hc hd na (by simpa using q3.length_eq) fun i y e => q3.item i y (by simpa using e)
  | _, _, _, .tup (ds := ds) h t, r, hs, hz => by
    cases r
    obtain ⟨its, rv, ⟨o, ho, hc, n, hd⟩, _⟩ := I.tuple (SqT.of h)
    have hz' : (tupleText (PyData.shownAll ds)).length ≤ sizeLine := by simpa only [PyData.shown] using hz
    obtain ⟨as, bs, q1, q2, q3⟩ := DxA.told I t rv (by simpa [PyData.showable] using hs) fun x hx => Nat.le_trans (tupleText_mem_le hx) hz'
    have rd := Reads.tuple ho hc hd (by simpa using q1)
    have na := not_mem_of_deeper rd (show PyData.depthAll ds < (PyData.tuple ds).depth by simp only [PyData.depth]; omega) q2
    refine ⟨_, _ :: bs, rd, ReadAtMost.cons rd (Nat.le_refl _) (fun b hb => let ⟨x, y, z, l⟩ := q2 b hb; ⟨x, y, z, by simp only [PyData.depth]; omega⟩), ?_⟩
    simp only [PyData.shown, PyData.depth]
    exact ReprK.tuple ho hc hd na (by simpa using q3)
  | _, _, _, .dct (es := kds) h t, r, hs, hz => by
    cases r
    obtain ⟨_, sm, vs, kv, o, es, ep, ho, hx, hd, _, ps, _⟩ := dk_of I.hok h
    have hz' : (dictText (PyData.shownKv kds)).length ≤ sizeLine := by simpa only [PyData.shown] using hz
    obtain ⟨s1, s2⟩ := PyData.showableKv_split kds (by simpa [PyData.showable] using hs)
    obtain ⟨a1, k1, k2, k3⟩ := keys_read (h := s.heap) t kv ps
    obtain ⟨b1, m1, r1⟩ := ReprAllK.of_readsAll (prog := X.prog) (w := X.w) k1 s1 (fun z => by rw [k2] at z; cases z) fun x hx => by
      obtain ⟨p, hp, hl⟩ := PyData.shownKv_key_le kds x hx
      exact Nat.le_trans hl (Nat.le_trans (dictText_mem_le hp) hz')
    obtain ⟨a2, b2, q1, m2, r2⟩ := DxK.told I t k3 s2 fun x hx => by
      obtain ⟨p, hp, hl⟩ := PyData.shownKv_val_le kds x hx
      exact Nat.le_trans hl (Nat.le_trans (dictText_mem_le hp) hz')
    have rd := Reads.dict ho hx.1 hd k1 q1
    have mm : ReadAtMost s.heap (PyData.depthKv kds) (b1 ++ b2) := (m1.mono (PyData.depthAll_keys_le kds)).append (m2.mono (PyData.depthAll_vals_le kds))
    have na := not_mem_of_deeper rd (show PyData.depthKv kds < (PyData.dict kds).depth by simp only [PyData.depth]; omega) mm
    refine ⟨_, _ :: (b1 ++ b2), rd, ReadAtMost.cons rd (Nat.le_refl _) (fun b hb => let ⟨x, y, z, l⟩ := mm b hb; ⟨x, y, z, by simp only [PyData.depth]; omega⟩), ?_⟩
    simp only [PyData.shown, PyData.depth, PyData.shownKv_eq]
    refine ReprK.dict ho hx.1 hd sm na (ReprEntriesK.of_two es.toList _ _ (r1.more_le (fun b z => List.mem_append_left _ z) ?_) (r2.more_le (fun b z => List.mem_append_right _ z) ?_))
    · exact PyData.depthAll_keys_le kds
    · exact PyData.depthAll_vals_le kds
theorem DxA.told (I : Inv X pins σ H s) : ∀ {vs : List V} {ds : List PyData} {us : List Value}, DxA H vs ds → Vals vs us → PyData.showableAll ds = true → (∀ t ∈ PyData.shownAll ds, t.length ≤ sizeLine) → ToldA X.prog X.w s.heap us ds
  | _, _, _, .nil, r, _, _ => by
    cases r
    exact told_nil
  | _, _, _, .cons h t, r, hs, hz => by
    cases r with
    | cons r rs =>
      simp only [PyData.showableAll, Bool.and_eq_true] at hs
      simp only [PyData.shownAll] at hz
      exact told_cons (Dx.told I h r hs.1 (hz _ List.mem_cons_self)) (DxA.told I t rs hs.2 fun x hx => hz x (List.mem_cons_of_mem _ hx))
theorem DxK.told (I : Inv X pins σ H s) : ∀ {kvs : List (Key × V)} {es : List (PyData × PyData)} {us : List Value}, DxK H kvs es → Vals (kvs.map (·.2)) us → PyData.showableAll (es.map (·.2)) = true → (∀ t ∈ PyData.shownAll (es.map (·.2)), t.length ≤ sizeLine) →
    ToldA X.prog X.w s.heap us (es.map (·.2))
  | _, _, _, .nil, r, _, _ => by
    cases r
    exact told_nil
  | _, _, _, .cons h t, r, hs, hz => by
    cases r with
    | cons r rs =>
      simp only [List.map_cons, PyData.showableAll, Bool.and_eq_true] at hs
      simp only [List.map_cons, PyData.shownAll] at hz
      exact told_cons (Dx.told I h r hs.1 (hz _ List.mem_cons_self)) (DxK.told I t rs hs.2 fun x hx => hz x (List.mem_cons_of_mem _ hx))
end
/-- repr of a tuple of any values -/
def rReprX : List V → Hp → VK → Prop := fun vs H Q => ∃ (a : Addr) (xs : List V) (ds : List PyData), vs = [.ref a] ∧ H a = some (.tup xs) ∧ DxA H xs ds ∧ PyData.showableAll ds = true ∧ (PyData.tuple ds).depth ≤ 40 ∧ (PyData.tuple ds).shown.length ≤ sizeLine ∧ Q (.str (PyData.tuple ds).shown) H
theorem cr_reprX (gg : X.A.guards = some []) (hu : X.A.units + 64 < cLine) : CallR X (.builtin "repr") rReprX := by
  intro pins s σ H vs us Q I r h
  obtain ⟨a, xs, ds, rfl, ha, hd, hs, hdep, hz, q⟩ := h
  obtain ⟨u, rfl, r1⟩ := vals1 r
  cases r1
  obtain ⟨its, rv, ⟨o, ho, hc, n, hdt⟩, _⟩ := I.tuple (SqT.of ha)
  have hz' : (tupleText (PyData.shownAll ds)).length ≤ sizeLine := by simpa only [PyData.shown] using hz
  obtain ⟨as, bs, q1, q2, q3⟩ := DxA.told I hd rv hs fun x hx => Nat.le_trans (tupleText_mem_le hx) hz'
  have rd := Reads.tuple ho hc hdt (by simpa using q1)
  have na := not_mem_of_deeper rd (show PyData.depthAll ds < (PyData.tuple ds).depth by simp only [PyData.depth]; omega) q2
  have hdep' : PyData.depthAll ds + 1 ≤ 40 := by simpa only [PyData.depth] using hdep
  have e : (PyData.tuple ds).shown = tupleText (PyData.shownAll ds) := by simp only [PyData.shown]
  rw [e] at q
  refine call_repr_slot (T := "tuple") (by omega) ⟨o, ho, hc⟩ F.slot_tuple_repr ?_
  exact call_tuple_reprK (h₀ := s.heap) ho hc hdt na (by simpa using q3) (A := X.A.in1) gg (fun b _ => Clear.nil b) (by show X.A.units + 1 + (PyData.depthAll ds + 1) < cLine; omega) (fun _ _ z => z)
    (fun h' t tk hk => ⟨_, _, rfl, .str _, H, I.kept (t' := tk) hk, ⟨t, rfl⟩, q⟩) hz'
theorem listOf {h : Heap} {a : Addr} {its : Array Value} (p : PlainL h a its) : h.IsList a its := let ⟨o, n, h1, h2, _, h3⟩ := p; ⟨o, h1, h2, n, h3⟩
/-- a list is empty: xs == [] -/
def rEqE : R2 := fun x y H Q => ∃ (a b : Addr) (xs : List V), x = .ref a ∧ y = .ref b ∧ H a = some (.lst xs) ∧ H b = some (.lst []) ∧ Q (.bl xs.isEmpty) H
theorem op_eqE (hu : X.A.units + 64 < cLine) : OpR X (compareOp .Eq) rEqE := by
  intro pins s σ H x y v u Q I rx ry h
  obtain ⟨a, b, xs, rfl, rfl, ha, hb, q⟩ := h
  cases xs with
  | nil => exact op_eqD hu pins s σ H _ _ v u Q I rx ry ⟨.list [], .list [], .lst (SqL.of ha) .nil, .lst (SqL.of hb) .nil, by decide +kernel, by decide +kernel, by simpa [PyData.eqv, PyData.eqvAll] using q⟩
  | cons x xs =>
    cases rx
    cases ry
    obtain ⟨its, rv, hl, _⟩ := I.list (SqL.of ha)
    obtain ⟨its2, rv2, hl2, _⟩ := I.list (SqL.of hb)
    cases rv2
    have e := rv.length
    refine SeqAt.RcAt.lists_lengths (listOf hl) (listOf hl2) ?_ (by omega) _ _ _ _ ⟨.bl false, H, I, rfl, q⟩
    cases its with
    | nil => simp at e
    | cons i is => simp
theorem dct_declines (l : Addr) (es : Array DictEntry) (ep : Nat) (dd : Option Addr) (sl : Array (Option Value)) (b : Int) (u : Tok) :
    Meets (Builtin.«dict.__eq__» ⟨[.ref l, .int b u], []⟩) (fun _ R s => s.heap.get? l = some { cls := .type "dict", dict := dd, data := .dict es ep, slots := sl } ∧ R (.ok (.ret .notImplemented)) s) :=
  .of_wp fun prog w A R s h => by
    obtain ⟨hp, g, d, tk, os⟩ := s
    obtain ⟨hl, h⟩ := h
    have f1 := F.sub_int_dict
    wp_walk using wpAny_loadPart' hl
    exact ⟨_, rfl, h⟩
theorem int_declines (b : Int) (u : Tok) (l : Addr) (c : Value) (es : Array DictEntry) (ep : Nat) (dd : Option Addr) (sl : Array (Option Value)) :
    Meets (Builtin.«int.__eq__» ⟨[.int b u, .ref l], []⟩) (fun _ R s => s.heap.get? l = some { cls := c, dict := dd, data := .dict es ep, slots := sl } ∧ R (.ok (.ret .notImplemented)) s) :=
  .of_wp fun prog w A R s h => by
    obtain ⟨hp, g, d, tk, os⟩ := s
    obtain ⟨hl, h⟩ := h
    wp_walk using wpAny_loadPart' hl, wpAny_load hl
    exact ⟨_, rfl, h⟩
theorem dct_int {A : Around} {l : Addr} {o : Obj} {es : Array DictEntry} {ep : Nat} (b : Int) (u : Tok) (ho : s.heap.get? l = some o) (hc : o.cls = .type "dict") (hd : o.data = .dict es ep) (hu : A.units < cLine) : SeqAt.RcAt A s (.ref l) (.int b u) false := fun prog w E Q h => by
  obtain ⟨cls, dd, data, sl⟩ := o
  simp only at hc hd
  subst hc hd
  exact SeqAt.rc_eq_decline_or (k := false) ⟨_, ho, rfl⟩ (typeIs_int s b u) (by decide) F.sub_int_dict F.slot_dict_eq F.slot_int_eq_refl
    (fun _ hq => call_meets F.slot_dict_eq ⟨_, ho, rfl⟩ F.entry_dict_eq (F.args_dict_eq_2 _ _) (dct_declines l es ep dd sl b u) ⟨ho, hq⟩)
    (fun _ hq => call_meets F.slot_int_eq_refl (typeIs_int s b u) F.entry_int_eq (F.args_int_eq_2 _ _) (int_declines b u l (.type "dict") es ep dd sl) ⟨ho, hq⟩)
    (fun _ hq => wpAny_of_eq (rfl : isSame (.ref l) (.int b u) = pure false) hq) (.inr hu) h
/-- a value is a told int -/
def isI (i : Int) : PyData → Bool
  | .int j => j == i
  | _ => false
def nob : PyData → Bool
  | .bool _ => false
  | _ => true
def rEqI : R2 := fun x y H Q => ∃ d i, Dx H x d ∧ y = .int i ∧ nob d = true ∧ Q (.bl (isI i d)) H
theorem op_eqI (hu : X.A.units + 64 < cLine) : OpR X (compareOp .Eq) rEqI := by
  intro pins s σ H x y v u Q I rx ry h
  obtain ⟨d, i, hd, rfl, nb, q⟩ := h
  cases hd with
  | non => exact op_eq pins s σ H _ _ v u Q I rx ry ⟨rfl, q⟩
  | bl b => cases nb
  | int j =>
    refine op_eq pins s σ H _ _ v u Q I rx ry ⟨rfl, ?_⟩
    rw [dec_int]
    exact q
  | str x => exact op_eq pins s σ H _ _ v u Q I rx ry ⟨rfl, q⟩
  | lst ha t =>
    cases rx
    obtain ⟨tk, rfl⟩ := ry
    obtain ⟨its, rv, hl, _⟩ := I.list (SqL.of ha)
    exact SeqAt.RcAt.list_int i tk (listOf hl) (by omega) _ _ _ _ ⟨.bl false, H, I, rfl, q⟩
  | tup ha t =>
    cases rx
    obtain ⟨tk, rfl⟩ := ry
    obtain ⟨its, rv, hl, _⟩ := I.tuple (SqT.of ha)
    exact SeqAt.RcAt.tuple_int i tk hl (by omega) _ _ _ _ ⟨.bl false, H, I, rfl, q⟩
  | dct ha t =>
    cases rx
    obtain ⟨tk, rfl⟩ := ry
    obtain ⟨_, sm, vs, kv, o, es, ep, ho, hx, hd, _, ps, _⟩ := dk_of I.hok ha
    exact dct_int i tk ho hx.1 hd (by omega) _ _ _ _ ⟨.bl false, H, I, rfl, q⟩
end
end Hr
namespace Hr
open PySem PySem.Spec PyProof.Rows L2 Evl LamX
def intD : PyData → Bool
  | .int _ => true
  | _ => false
def blD : PyData → Bool
  | .bool _ => true
  | _ => false
def tupD : PyData → Bool
  | .tuple _ => true
  | _ => false
def fromD (l : Int) : PyData → Bool
  | .int n => decide (l ≤ n)
  | _ => false
def itemsD : PyData → List PyData
  | .tuple ds => ds
  | _ => []
def fromsD (l : Int) : PyData → Bool
  | .tuple ds => ds.all (fromD l)
  | _ => false
def intsD : PyData → Bool
  | .tuple ds => ds.all intD
  | _ => false
def valD : PyData → Int
  | .int n => n
  | _ => 0
def valsD (d : PyData) : List Int := (itemsD d).map valD
theorem Dx.kit {K : PySem.W.Frag} {H : Hp} {v : V} {d : PyData} (h : Dx H v d) : ∃ nm : String, TyX K H v (.type nm) ∧ kitB nm "int" = some (intD d || blD d) ∧ kitB nm "bool" = some (blD d) ∧ kitB nm "tuple" = some (tupD d) := by
  cases h with
  | non => exact ⟨"NoneType", .base .non, by decide +kernel, by decide +kernel, by decide +kernel⟩
  | bl b => exact ⟨"bool", .base (.bl b), by show kitB _ _ = some true; decide +kernel, by show kitB _ _ = some true; decide +kernel, by show kitB _ _ = some false; decide +kernel⟩
  | int i => exact ⟨"int", .base (.int i), by show kitB _ _ = some true; decide +kernel, by show kitB _ _ = some false; decide +kernel, by show kitB _ _ = some false; decide +kernel⟩
  | str x => exact ⟨"str", .base (.str x), by show kitB _ _ = some false; decide +kernel, by show kitB _ _ = some false; decide +kernel, by show kitB _ _ = some false; decide +kernel⟩
  | lst h t => exact ⟨"list", .base (.lst h), by show kitB _ _ = some false; decide +kernel, by show kitB _ _ = some false; decide +kernel, by show kitB _ _ = some false; decide +kernel⟩
  | tup h t => exact ⟨"tuple", .base (.tup h), by show kitB _ _ = some false; decide +kernel, by show kitB _ _ = some false; decide +kernel, by show kitB _ _ = some true; decide +kernel⟩
  | dct h t => exact ⟨"dict", .base (.dK h), by show kitB _ _ = some false; decide +kernel, by show kitB _ _ = some false; decide +kernel, by show kitB _ _ = some false; decide +kernel⟩
theorem intsD_vals {d : PyData} (h : intsD d = true) : d = .tuple ((valsD d).map .int) := by
  cases d with
  | tuple ds =>
    have key : ∀ ds : List PyData, ds.all intD = true → ds = (ds.map valD).map .int := by
      intro ds
      induction ds with
      | nil => exact fun _ => rfl
      | cons d ds ih =>
        intro h
        rw [List.all_cons, Bool.and_eq_true] at h
        cases d with
        | int n => exact congrArg (PyData.int n :: ·) (ih h.2)
        | _ => exact absurd h.1 Bool.false_ne_true
    exact congrArg PyData.tuple (key ds h)
  | _ => exact absurd h Bool.false_ne_true
theorem froms_ints {l : Int} {d : PyData} (h : fromsD l d = true) : intsD d = true := by
  cases d with
  | tuple ds =>
    refine List.all_eq_true.mpr fun x hx => ?_
    have := List.all_eq_true.mp h x hx
    cases x with
    | int n => rfl
    | _ => exact absurd this Bool.false_ne_true
  | _ => exact absurd h Bool.false_ne_true
theorem DxA.ofInts {H : Hp} : ∀ {ns : List Int} {xs : List V}, DxA H xs (ns.map PyData.int) → xs = ns.map V.int
  | [], _, .nil => rfl
  | n :: ns, _, .cons h t => by
    cases h
    rw [DxA.ofInts t]
    rfl
theorem given_empty (n : Nat) (f : Nat → Bool) (v : Nat → V) : (given n f v).isEmpty = (List.range n).all fun i => !f i := by
  rw [Bool.eq_iff_iff, List.isEmpty_iff, List.all_eq_true]
  unfold given
  constructor
  · intro h i hi
    cases hf : f i with
    | false => rfl
    | true =>
      have : v i ∈ ((List.range n).filter f).map v := List.mem_map.mpr ⟨i, List.mem_filter.mpr ⟨hi, hf⟩, rfl⟩
      rw [h] at this
      simp at this
  · intro h
    have : (List.range n).filter f = [] := List.filter_eq_nil_iff.mpr fun i hi => by simpa using h i hi
    rw [this]
    rfl
end Hr

/-! told: what a call without arguments hands out, or the caught error, its thing and what it is. -/
namespace Hr
open PySem PySem.Spec PyProof.Rows L2 LamX HrE_thing
/-- what is known of an own class that clauses and isinstance name -/
structure OwnC (K : PySem.W.Frag) (C : Addr) : Prop where
  cls : PySem.W.isClsIn K C = true
  ty : PySem.W.typeIn K (.ref C) = some (.type "type")
  ex : PySem.W.subIn K (.ref C) (.type "BaseException") = some true
  hd : PySem.W.hasDictIn K C = true
  me : PySem.W.subIn K (.ref C) (.ref C) = some true
/-- .. and of one whose instances are asked -/
structure OwnX (K : PySem.W.Frag) (C : Addr) : Prop extends OwnC K C where
  ga : PySem.W.findIn K (.ref C) "__getattribute__" = some (some (.builtin "BaseException.__getattribute__"))
  gg : PySem.W.findIn K (.ref C) "__getattr__" = some none
  kc : PySem.W.findIn K (.ref C) "__class__" = some (some (.builtin "object.__class__"))
  mo : PySem.W.mroIn K C (.type "object") = some true
  sg : PySem.W.specialIn K (.builtin "object.__class__") "__get__" = some (some (.builtin "getset_descriptor.__get__"))
  tk : PySem.W.takesIn K (.builtin "object.__class__") = some true
section
variable {K : PySem.W.Frag} {C D : Addr} {b : Bool}
theorem OwnC.kit (o : OwnC K C) (e : PySem.W.subIn K (.ref D) (.ref C) = some b) : PySem.W.kitOne K (.ref D) (.ref C) = some b := by
  unfold PySem.W.kitOne
  by_cases z : D = C
  · subst z
    rw [o.me] at e
    cases e
    rw [if_pos (by simp)]
  · rw [if_neg (by simpa using z)]
    have c1 : (PySem.W.clsIn K C).isSome = true := o.cls
    unfold PySem.W.kitCls
    dsimp only
    rw [c1, o.ty, if_pos (by rfl), e]
theorem OwnC.exm (o : OwnC K C) (e : PySem.W.subIn K (.ref D) (.ref C) = some b) : PySem.W.exmOne K (.ref D) (.ref C) = some b := PySem.W.exm_ref o.ex o.hd o.ty e
end
/-- an exception that a body hands out finds as many slots as the def has names -/
theorem takes_len {X : Cx} {W : WX} (tk : Takes X W) : Takes X fun cls d σ H => σ.length = X.N.length → W cls d σ H := fun u s ⟨a, B, s0, pins, σ, H, cls, d, e, J, nb, up, sky, na, os, ag, w⟩ =>
  tk u s ⟨a, B, s0, pins, σ, H, cls, d, e, J, nb, up, sky, na, os, ag, w J.len⟩
/-- isinstance(e, c), e the caught error at a, its fields told -/
def rIsX (K : PySem.W.Frag) (D a : Addr) (cls : Value) (d : Option Addr) : List V → Hp → VK → Prop := fun xs H Q =>
  ∃ (c : V) (cv : Value) (b : Bool) (dd : Addr) (fs : List (Str × V)), cls = .ref D ∧ xs = [.ref a, c] ∧ (∀ u, RelV c u → u = cv) ∧ PySem.W.kitOne K (.ref D) cv = some b ∧ d = some dd ∧ H dd = some (.xd fs) ∧ Q (.bl b) H
theorem call_isX {X : Cx} {a D : Addr} {ob : Obj} {cls : Value} {d : Option Addr} {pn : List (Addr × Obj)} (o : OwnX X.K D) (hz : Zc cls d ob) (hf : ∃ fv, ob.data = .fields fv) : CallR (X.suite a ((a, ob) :: pn)) (.builtin "isinstance") (rIsX X.K D a cls d) := by
  intro pins s σ H xs us Q I r h
  obtain ⟨c, cv, b, dd, fs, rfl, rfl, hcv, e, rfl, hx, q⟩ := h
  cases r with
  | cons rx rr =>
    cases rr with
    | cons rt rr =>
      cases rr
      cases rx
      have ec := hcv _ rt
      subst ec
      obtain ⟨at_, _⟩ := I.pin (a, ob) (List.mem_append.mpr (.inl List.mem_cons_self))
      obtain ⟨fv, hv⟩ := hf
      obtain ⟨mA, hns, _⟩ := (show ObjOk X.prog X.w H s.heap dd (.xd fs) from I.hok dd _ hx)
      obtain ⟨od, ho, _⟩ := lookIn_ns hns
      have J : PySem.W.InstAt s.heap a ob D (some od) := ⟨at_, hz.1, by unfold PySem.W.notCls; rw [hv] <;> rfl, by rw [hz.2]; exact ho⟩
      exact PySem.W.kia_one (PySem.W.kitx_exc o.cls o.ga o.gg o.ex o.kc o.sg o.tk o.mo) I.kIn J e nofun fun tk => ⟨.bl b, H, I.kept (t' := tk) fun _ _ z => z, rfl, q⟩
end Hr

/-! The deck of drawn numbers: a dict with a list, and what else is known of the heap. -/
namespace Hr
open PySem PySem.Spec PyProof.Rows L2 Evl
def kC : Key := .inr "left"
def kM : Key := .inr "mixed"
def kD : Key := .inr "draws"
def deckD (c : Addr) (m n : Int) : List (Key × V) := [(kC, .ref c), (kM, .int m), (kD, .int n)]
theorem kCM : ¬ kC = kM := by decide +kernel
theorem kCD : ¬ kC = kD := by decide +kernel
theorem kMD : ¬ kM = kD := by decide +kernel
section
variable {c : Addr} {m n n' : Int}
theorem deck_cells : valV (deckD c m n) kC = some (.ref c) := valV_pos rfl
theorem deck_mixed : valV (deckD c m n) kM = some (.int m) := (valV_neg kCM).trans (valV_pos rfl)
theorem deck_draws : valV (deckD c m n) kD = some (.int n) := (valV_neg kCD).trans ((valV_neg kMD).trans (valV_pos rfl))
theorem deck_put : putK (deckD c m n) kD (.int n') = deckD c m n' := by
  unfold putK deckD
  rw [if_pos (by simp)]
  simp [kCD, kMD]
theorem deck_made : mergeK [] [(kC, .ref c), (kM, .int m), (kD, .int n)] = deckD c m n := by
  have h1 : ¬ kM = kC := fun e => kCM e.symm
  have h2 : ¬ kD = kC := fun e => kCD e.symm
  have h3 : ¬ kD = kM := fun e => kMD e.symm
  unfold mergeK
  simp [putK, deckD, kCM, kCD, kMD, h1, h2, h3]
end
structure DkC (G : Hp) (d c : Addr) (cells : List Int) (m n : Int) (H : Hp) : Prop where
  ex : Ex G H
  gd : G d = none
  gc : G c = none
  hd : H d = some (.dK (deckD c m n))
  hc : H c = some (.lst (cells.map V.int))
  len : cells.length ≤ 63
  m0 : 0 ≤ m
  m1 : m < 2147483648
/-- a deck at d; beside it all of G stands -/
def Dk (G : Hp) (d : Addr) (H : Hp) : Prop := ∃ c cells m n, DkC G d c cells m n H
section
variable {G G' H H' : Hp} {d c p : Addr} {cells : List Int} {m n n' : Int} {o : HO}
theorem DkC.ne (k : DkC G d c cells m n H) : d ≠ c := ne_of k.hd k.hc (by intro z; cases z)
theorem DkC.more (k : DkC G d c cells m n H) (e : Ex H H') : DkC G d c cells m n H' := ⟨k.ex.trans e, k.gd, k.gc, e _ _ k.hd, e _ _ k.hc, k.len, k.m0, k.m1⟩
theorem DkC.new (k : DkC G d c cells m n H) (h : H p = none) : DkC G d c cells m n (upd H p o) := k.more (Ex.new h)
theorem DkC.draw (k : DkC G d c cells m n H) : DkC G d c cells m n' (upd H d (.dK (deckD c m n'))) :=
  ⟨Ex.mut k.ex k.gd, k.gd, k.gc, upd_same, by rw [upd_ne k.ne.symm]; exact k.hc, k.len, k.m0, k.m1⟩
theorem DkC.cell {xs : List Int} (k : DkC G d c cells m n H) (h : xs.length ≤ 63) : DkC G d c xs m n (upd H c (.lst (xs.map V.int))) :=
  ⟨Ex.mut k.ex k.gc, k.gd, k.gc, by rw [upd_ne k.ne]; exact k.hd, upd_same, h, k.m0, k.m1⟩
theorem DkC.grow (k : DkC G d c cells m n H) (h : H p = none) (e : Ex H H') (hp : H' p = some o) : DkC (upd G p o) d c cells m n H' := by
  have hd : d ≠ p := ne_of_none k.hd h
  have hc : c ≠ p := ne_of_none k.hc h
  refine ⟨fun b u z => ?_, by rw [upd_ne hd]; exact k.gd, by rw [upd_ne hc]; exact k.gc, e _ _ k.hd, e _ _ k.hc, k.len, k.m0, k.m1⟩
  by_cases hb : b = p
  · subst hb
    rw [upd_same] at z
    cases z
    exact hp
  · rw [upd_ne hb] at z
    exact e _ _ (k.ex _ _ z)
theorem Dk.ex (k : Dk G d H) : Ex G H := k.elim fun _ ⟨_, _, _, z⟩ => z.ex
theorem Dk.more (k : Dk G d H) (e : Ex H H') : Dk G d H' := let ⟨c, x, m, n, z⟩ := k; ⟨c, x, m, n, z.more e⟩
theorem Dk.new (k : Dk G d H) (h : H p = none) : Dk G d (upd H p o) := k.more (Ex.new h)
theorem Dk.grow (k : Dk G d H) (h : H p = none) (e : Ex H H') (hp : H' p = some o) : Dk (upd G p o) d H' := let ⟨c, x, m, n, z⟩ := k; ⟨c, x, m, n, z.grow h e hp⟩
theorem Dk.free (k : Dk G d H) (h : H p = none) : G p = none := fresh_back k.ex h
theorem Dk.gex (k : Dk G d H) (h : H p = none) : Ex G (upd G p o) := Ex.new (k.free h)
theorem Dk.get (k : Dk G d H) {b : Addr} {u : HO} (h : G b = some u) : H b = some u := k.ex _ _ h
theorem DkC.gcells (k : DkC G d c cells m n H) : DGet H d (.str "left") (some (.ref c)) := by
  have z := DGet.k (k := kC) k.hd
  rw [deck_cells] at z
  exact z
theorem DkC.gmixed (k : DkC G d c cells m n H) : DGet H d (.str "mixed") (some (.int m)) := by
  have z := DGet.k (k := kM) k.hd
  rw [deck_mixed] at z
  exact z
theorem DkC.gdraws (k : DkC G d c cells m n H) : DGet H d (.str "draws") (some (.int n)) := by
  have z := DGet.k (k := kD) k.hd
  rw [deck_draws] at z
  exact z
theorem DkC.pdraws (k : DkC G d c cells m n H) : DPut H d (.str "draws") (.int n') (upd H d (.dK (deckD c m n'))) := by
  have z := DPut.k (k := kD) (v := .int n') k.hd (by show 3 < sizeLine; decide)
  rw [deck_put] at z
  exact z
end
/-! a list of ints as data -/
def izD (xs : List Int) : PyData := .list (xs.map PyData.int)
section
variable {K : PySem.W.Frag} {H : Hp} {a : Addr}
theorem ints_dp : ∀ xs : List Int, DpAll K H (xs.map V.int) (xs.map PyData.int)
  | [] => .nil
  | x :: xs => .cons (.int x) (ints_dp xs)
theorem izD_dp {xs : List Int} (h : SqL K H a (xs.map V.int)) : Dp K H (.ref a) (izD xs) := .lst h (ints_dp xs)
theorem ints_lay : ∀ xs : List Int, PyData.canLayAll0 (xs.map PyData.int) = true
  | [] => by simp [PyData.canLayAll0]
  | x :: xs => by
    have ih := ints_lay xs
    simp only [List.map_cons, PyData.canLayAll0, PyData.canLay0, Bool.true_and]
    exact ih
theorem ints_depth : ∀ xs : List Int, PyData.depthAll (xs.map PyData.int) ≤ 1
  | [] => by simp [PyData.depthAll]
  | x :: xs => by
    have ih := ints_depth xs
    simp only [List.map_cons, PyData.depthAll, PyData.depth]
    exact Nat.max_le.mpr ⟨by decide, ih⟩
theorem izD_shaped (xs : List Int) : SeqAt.shaped (izD xs) = true := by
  unfold SeqAt.shaped izD
  have h1 := ints_lay xs
  have h2 := ints_depth xs
  simp only [PyData.canLay0, PyData.depth, Bool.and_eq_true, decide_eq_true_eq]
  exact ⟨h1, decide_eq_true (by omega)⟩
theorem izD_eqv_nil (xs : List Int) : PyData.eqv (izD xs) (izD []) = xs.isEmpty := by
  cases xs with
  | nil => simp [izD, PyData.eqv, PyData.eqvAll]
  | cons x xs => simp [izD, PyData.eqv, PyData.eqvAll]
end
end Hr
namespace Hr
open PySem PySem.Spec PyProof.Rows L2 Evl
section
variable {G G' H H' : Hp} {d c f : Addr} {cells : List Int} {m n : Int} {o o' : HO}
/-- a known object of one's own is changed -/
theorem Dk.set (k : Dk G d H) (h : G f = some o) : Dk (upd G f o') d (upd H f o') := by
  obtain ⟨c, x, m, n, z⟩ := k
  have fd : d ≠ f := fun e => by subst e; rw [z.gd] at h; cases h
  have fc : c ≠ f := fun e => by subst e; rw [z.gc] at h; cases h
  refine ⟨c, x, m, n, ?_, by rw [upd_ne fd]; exact z.gd, by rw [upd_ne fc]; exact z.gc, by rw [upd_ne fd]; exact z.hd, by rw [upd_ne fc]; exact z.hc, z.len, z.m0, z.m1⟩
  intro b u e
  by_cases hb : b = f
  · subst hb
    rw [upd_same] at e ⊢
    exact e
  · rw [upd_ne hb] at e ⊢
    exact z.ex _ _ e
theorem Dk.made (k : Dk G d H) (h : H f = none) : Dk (upd G f o) d (upd H f o) := k.grow h (Ex.new h) upd_same
end
end Hr

/-! Tables of code objects beside a deck. -/
namespace Hr
open PySem PySem.Spec PyProof.Rows L2 Evl LamX
/-! ### a deck beside tables -/
/-- no table is told -/
def NT (G : Hp) : Prop := ∀ b o, G b = some o → ∀ ps, o ≠ .tbl ps
def nt (G : Hp) : Hp := fun b => match G b with
  | some (.tbl _) => none
  | o => o
theorem nt_NT (G : Hp) : NT (nt G) := fun b o h ps z => by
  subst z
  unfold nt at h
  split at h
  · cases h
  · rename_i k
    exact k ps h
theorem nt_ex (G : Hp) : Ex (nt G) G := fun b o h => by
  unfold nt at h
  split at h
  · cases h
  · exact h
theorem nt_at {G : Hp} {b : Addr} {o : HO} (h : G b = some o) (n : ∀ ps, o ≠ .tbl ps) : nt G b = some o := by
  unfold nt
  rw [h]
  cases o with
  | tbl ps => exact absurd rfl (n ps)
  | _ => rfl
theorem nt_none {G : Hp} {b : Addr} (h : G b = none) : nt G b = none := by
  unfold nt
  rw [h]
section
variable {G Gj H H' : Hp} {d : Addr} {T : List (Addr × Str)}
theorem Dk.moreN (k : Dk G d H) (n : NT G) (e : ExtN H H') : Dk G d H' := by
  obtain ⟨c, x, m, i, z⟩ := k
  exact ⟨c, x, m, i, fun b o h => e _ _ (z.ex _ _ h) (n b o h), z.gd, z.gc, e _ _ z.hd (fun _ y => by cases y), e _ _ z.hc (fun _ y => by cases y), z.len, z.m0, z.m1⟩
theorem Dk.nt (k : Dk G d H) : Dk (nt G) d H := by
  obtain ⟨c, x, m, i, z⟩ := k
  exact ⟨c, x, m, i, (nt_ex G).trans z.ex, nt_none z.gd, nt_none z.gc, z.hd, z.hc, z.len, z.m0, z.m1⟩
theorem Dk.full (k : Dk G d H) (hT : Tabs T H) : ∃ Gf, Ex G Gf ∧ Dk Gf d H ∧ Tabs T Gf := by
  obtain ⟨c, x, m, i, z⟩ := k
  have other : ∀ b o, H b = some o → o ≠ .dK (deckD c m i) → o ≠ .lst (x.map V.int) → (fun b => if b = d ∨ b = c then none else H b : Hp) b = some o := fun b o h n1 n2 => by
    refine (if_neg ?_).trans h
    rintro (rfl | rfl)
    · rw [z.hd] at h
      exact n1 (Option.some.inj h).symm
    · rw [z.hc] at h
      exact n2 (Option.some.inj h).symm
  refine ⟨fun b => if b = d ∨ b = c then none else H b, fun b o h => ?_, ⟨c, x, m, i, fun b o h => ?_, if_pos (.inl rfl), if_pos (.inr rfl), z.hd, z.hc, z.len, z.m0, z.m1⟩, fun p hp => ?_⟩
  · refine (if_neg ?_).trans (z.ex _ _ h)
    rintro (rfl | rfl)
    · rw [z.gd] at h
      cases h
    · rw [z.gc] at h
      cases h
  · by_cases hb : b = d ∨ b = c
    · exact absurd ((if_pos hb).symm.trans h) (by simp)
    · exact (if_neg hb).symm.trans h
  · obtain ⟨ps, h1, h2, h3⟩ := hT p hp
    refine ⟨ps, other _ _ h1 (fun y => by cases y) (fun y => by cases y), h2, fun pos cv hc => ?_⟩
    obtain ⟨c', e1, e2⟩ := h3 pos cv hc
    exact ⟨c', e1, other _ _ e2 (fun y => by unfold CodeO at y; cases y) (fun y => by unfold CodeO at y; cases y)⟩
theorem Tabs.nil (h : ∀ p ∈ T, H p.1 = some (.tbl #[])) : Tabs T H := fun p hp => TabS.nil (h p hp)
end
end Hr

/-! A lambda of one parameter, handed to a def as its third argument and called there by that name. -/
namespace Hr
open PySem PySem.Spec PyProof.Rows L2 LamX
section
variable {P : Program} {w : World} {K : PySem.W.Frag} {mg : Str → Option Value} {base : Heap} {k : Nat} {f : Addr} {fd : FuncData} {ps : List Str} {sp : Sp}
/-- a def by its body, its code object told -/
theorem okC {x qual : Str} {st : Stmt} {N : List Str} (F : Fun K x qual st f fd) (S : FnScope N ps (defScope st)) (len : ∀ vs H Q E, sp vs H Q E → vs.length = ps.length)
    (hb : ∀ (cdv : Value) (A : Around) (outer : List Env) (s : Shared) (H : Hp) (vs : List V) (Q : VK) (E : XK), fd.code = cdv → Room k (A.deeper (envOfC qual (defScope st) s.heap.objs.size f cdv)) → sp vs H Q E →
      ∃ t, PSs (cxOf CX0 P w K mg base N qual (defScope st) f cdv A outer s H E).nox (defBody st) t ∧ t { nx := fun _ H' => Q .non H', rt := Q } (start N vs) H) :
    FnOk P w K mg base CX0 (k + 1) f fd ps sp := by
  obtain ⟨oc, od, kV, doc, pm, an, cdv, ct, osl, rfl, lk, hcd⟩ := F.ex
  refine fn_of lk hcd S len fun A outer s H vs Q E hr hsp => ?_
  obtain ⟨t, h, q⟩ := hb cdv A outer s H vs Q E rfl hr hsp
  exact ⟨t, h.nox, q⟩
end
/-- the names of a lambda with the parameter b -/
structure LamS1 (sc scope : Scope) (b : Str) : Prop where
  kind : scope.kind = .function
  co : scope.isCoroutine = false
  gen : scope.isGenerator = false
  nocell : ∀ y ∈ scope.names, y.2 ≠ .cell
  own : ∀ y ∈ scope.names, y.2 = .local → y.1 = b
  par : scope.names.lookup b = some .local
  free : ∀ y ∈ scope.names, y.2 = .free → sc.names.lookup y.1 = some .cell ∨ sc.names.lookup y.1 = some .free
def lam1B (sc scope : Scope) (b : Str) : Bool :=
  decide (scope.kind = .function) && (!scope.isCoroutine && (!scope.isGenerator && (decide (scope.names.lookup b = some .local) &&
    scope.names.all fun y => !decide (y.2 = .cell) && ((!decide (y.2 = .local) || decide (y.1 = b)) && (!decide (y.2 = .free) || (decide (sc.names.lookup y.1 = some .cell) || decide (sc.names.lookup y.1 = some .free)))))))
theorem lam1_by {sc scope : Scope} {b : Str} (h : lam1B sc scope b = true) : LamS1 sc scope b := by
  unfold lam1B at h
  simp only [Bool.and_eq_true, Bool.or_eq_true, Bool.not_eq_true', decide_eq_true_eq, decide_eq_false_iff_not, List.all_eq_true] at h
  obtain ⟨h1, h2, h3, h4, h5⟩ := h
  refine ⟨h1, h2, h3, fun y hy => (h5 y hy).1, fun y hy e => ?_, h4, fun y hy e => ?_⟩
  · rcases (h5 y hy).2.1 with z | z
    · exact absurd e z
    · exact z
  · rcases (h5 y hy).2.2 with z | z | z
    · exact absurd e z
    · exact .inl z
    · exact .inr z
theorem LamS1.has {X : Cx} {scope : Scope} {b : Str} (L : LamS1 X.env.scope scope b) (ok : X.Ok) : ∀ y ∈ scope.names, y.2 = .free → ∃ c, X.env.cells.lookup y.1 = some c :=
  fun y hy e => (L.free y hy e).elim (fun k => ok.has _ (.inl k)) fun k => ok.has _ (.inr k)
/-- where its body runs: the parameter ahead of the maker's names -/
def lamCx1 (X : Cx) (A : Around) (outer : List Env) (s : Shared) (H : Hp) (E : XK) (scope : Scope) (f c' : Addr) (b : Str) : Cx := { lamCx X A outer s H E scope f c' with N := b :: X.N }
section
variable {X : Cx} {pins : List (Addr × Obj)} {σ : L2.St} {H HZ : Hp} {s s1 : Shared}
theorem lam1_start {A : Around} {outer : List Env} {E : XK} {scope : Scope} {f c' : Addr} {h₁ : Heap} {tk : Nat} {b : Str} {v : V} {u : Value} (I : Inv X pins σ H s) (L : LamS1 X.env.scope scope b) (hb : b ∉ X.N) (e0 : Env0 X.prog X.w X.K X.mg X.base A outer s1 HZ) (hd : A.handled = none)
    (un : Un (frs X.stack) [] H HZ s.heap s1.heap) (rv : L2.RelV v u) (hns : h₁.Ns s1.heap.objs.size fun y => ([(b, u)] : List (Str × Value)).reverse.lookup y) (kp : ∀ b o, s1.heap.get? b = some o → h₁.get? b = some o) :
    Inv (lamCx1 X A outer s1 HZ E scope f c' b) [] (some v :: σ) HZ { s1 with heap := h₁, toks := tk } := by
  have hfree := L.has I.ok
  have hcl : ∀ {y c}, (cloFrom X.env.cells scope.names []).lookup y = some c → X.env.cells.lookup y = some c := fun {y c} e => by
    rcases cloFrom_mem (PySem.mem_of_lookup e) with z | ⟨z1, z2⟩
    · cases z
    · obtain ⟨c1, hc1⟩ := hfree _ z1 rfl
      have hc2 : X.env.cells.lookup y = some c1 := hc1
      have hc3 : c = c1 := by
        rw [z2, hc2] <;> rfl
      rw [hc3]
      exact hc2
  have hlk : ∀ {y}, scope.names.lookup y = some .free → ∃ c, (cloFrom X.env.cells scope.names []).lookup y = some c := fun {y} hl =>
    mem_lookup (cloFrom_has (cells := X.env.cells) (acc := []) (PySem.mem_of_lookup hl))
  have hcell : ∀ {c : Addr} {z : Option Value}, H c = none → s.heap.IsCell c z → h₁.IsCell c z := fun {c z} n ⟨o, ho, hz⟩ => by
    obtain ⟨sl, q⟩ := un.any ho n (by simp)
    exact ⟨_, kp _ _ q, hz⟩
  have hno : ∀ d : Addr, d ∉ (lamCx1 X A outer s1 HZ E scope f c' b).ex := fun d z => absurd (show d ∈ ([] : List Addr) from z) (by simp)
  refine ⟨⟨e0.mod, L.kind, rfl, rfl, Nat.le_refl _, fun y z c e1 e2 => I.ok.inj y z c (hcl e1) (hcl e2), fun y hy => ?_, fun y c z _ => ?_, fun _ => hd, Around.frames_deeper e0.frames, .inr ⟨rfl, rfl⟩, fun d z => absurd z (hno d), e0.bs, e0.bsz, fun d _ _ => hno d,
      fun d z => absurd z (hno d), e0.funs, e0.frf⟩,
    rfl, e0.bare, Un.kept kp, ⟨_, hns, fun i y z e1 e2 e3 => ?_⟩, fun y c e => ?_, e0.hok.fresh (Nat.le_refl _), fun y c e => ?_, fun q hq => absurd (show q ∈ ([] : List (Addr × Obj)) ++ [] from hq) (by simp), e0.hok.kept kp, congrArg (· + 1) I.len⟩
  · have hy : scope.names.lookup y = some .cell ∨ scope.names.lookup y = some .free := hy
    rcases hy with hy | hy
    · exact absurd rfl (L.nocell _ (PySem.mem_of_lookup hy))
    · exact hlk hy
  · have z : false = true := z
    cases z
  · have e1 : (b :: X.N)[i]? = some y := e1
    have e2 : (some v :: σ)[i]? = some (some z) := e2
    have e3 : Vis scope y := e3
    cases i with
    | zero =>
      have hy : b = y := Option.some.inj e1
      have hz : v = z := Option.some.inj (Option.some.inj e2)
      subst hy
      subst hz
      refine ⟨u, rv, .inl ⟨L.par, ?_⟩⟩
      show (List.lookup b [(b, u)]) = some u
      simp [List.lookup]
    | succ i =>
      have e1 : X.N[i]? = some y := by simpa using e1
      have e2 : σ[i]? = some (some z) := by simpa using e2
      have hne : y ≠ b := fun q => hb (by rw [← q]; exact List.mem_of_getElem? e1)
      rcases e3 with k | k | k
      · exact absurd (L.own _ (PySem.mem_of_lookup k) rfl) hne
      · exact absurd rfl (L.nocell _ (PySem.mem_of_lookup k))
      · obtain ⟨m, hn, hl⟩ := I.loc
        obtain ⟨w', r, q⟩ := hl i y z e1 e2 ((L.free _ (PySem.mem_of_lookup k) rfl).elim (fun k => .inr (.inl k)) fun k => .inr (.inr k))
        obtain ⟨c2, h2⟩ := hlk k
        refine ⟨w', r, .inr ⟨.inr k, c2, h2, ?_⟩⟩
        have c1 := hcl h2
        rcases q with ⟨k', _⟩ | ⟨_, c3, e', hz⟩
        · have k' : X.env.scope.names.lookup y = some .local := k'
          rcases L.free _ (PySem.mem_of_lookup k) rfl with k2 | k2 <;> rw [show X.env.scope.names.lookup y = _ from k2] at k' <;> cases k'
        · rw [c1] at e'
          cases e'
          exact hcell (I.freeC y _ c1) hz
  · obtain ⟨w', z⟩ := I.cell y c (hcl e)
    exact ⟨w', hcell (I.freeC y c (hcl e)) z⟩
  · obtain ⟨z, o, ho, _⟩ := I.cell y c (hcl e)
    exact un.free c o ho (I.freeC y c (hcl e)) (by simp)
/-- count(e), in the def that got the lambda -/
theorem pe_act1 {CXg : CXT} {Eg : XK} {Ng : List Str} {qg : Str} {sg : Scope} {g f c' : Addr} {cdg pm ctv : Value} {params : Arguments} {body : Expr} {scope : Scope} {k i : Nat} {a b : Str} {ta : TA} {tb : TE} {p1 p2 : Pos} {e : Expr}
    (I : Inv X pins σ H s) (L : LamS1 X.env.scope scope b) (hb : b ∉ X.N) (hf : s.heap.get? f = some (PySem.W.kla_obj "<lambda>" (X.env.qual ++ "<lambda>") params body scope (cloFrom X.env.cells scope.names []) pm c' ctv)) (hfn : H f = none) (hfr : f ∉ frs X.stack)
    (hbind : ∀ u : Value, bindArgs (PySem.W.kla_fn "<lambda>" (X.env.qual ++ "<lambda>") params body scope (cloFrom X.env.cells scope.names []) pm (.ref c') ctv) ⟨[u], []⟩ = pure [(b, u)])
    (hr : Room (k + 1) (X.A.deeper (envOfC qg sg s.heap.objs.size g cdg)))
    (hbody : ∀ (A : Around) (outer : List Env) (s : Shared) (H : Hp) (E : XK), Room k (A.deeper (lamEnv X scope s.heap.objs.size f c')) → PE (lamCx1 X A outer s H E scope f c' b) body tb)
    (hN : Ng[i]? = some a) (hv : Vis sg a) (ha : PA (cxOf CXg X.prog X.w X.K X.mg X.base Ng qg sg g cdg X.A X.stack s H Eg).nox [e] ta) (hd : (a == ("__debug__" : Str)) = false := by decide) (hcd : (a == ("__classdict__" : Str)) = false := by decide)
    (he : ∀ env, starEach [e] env = (false, eval e env) :: starEach [] env := by intro _; rfl) :
    PE (cxOf CXg X.prog X.w X.K X.mg X.base Ng qg sg g cdg X.A X.stack s H Eg).nox (.Call (.Name a p1) [e] [] p2)
      (fun σZ HZ Q => σZ[i]? = some (some (.ref f)) ∧ ta σZ HZ fun vs H1 => ∃ v, vs = [v] ∧ H1 c' = some (CodeO c' (X.env.qual ++ "<lambda>")) ∧ tb (some v :: σ) H1 Q) := by
  refine ⟨fun pinsZ sZ σZ HZ Q IZ h => ?_⟩
  obtain ⟨hs, ht⟩ := h
  refine wpAny_Call_Name_kw (thn ((pe_var (pos := p1) (i := i) hN hv hd hcd).run pinsZ sZ σZ HZ (fun v H1 => v = .ref f ∧ H1 = HZ) IZ ⟨.ref f, hs, rfl, rfl⟩) fun u s1 ⟨v, H1, I1, r1, q1⟩ => ?_)
  obtain ⟨ev, eH⟩ := q1
  subst ev
  rw [eH] at I1
  obtain rfl : u = Value.ref f := r1
  have at_ : ∀ {sY : Shared} {σY : L2.St} {HY : Hp}, Inv (cxOf CXg X.prog X.w X.K X.mg X.base Ng qg sg g cdg X.A X.stack s H Eg).nox pinsZ σY HY sY → sY.heap.get? f = some (PySem.W.kla_obj "<lambda>" (X.env.qual ++ "<lambda>") params body scope (cloFrom X.env.cells scope.names []) pm c' ctv) :=
    fun J => J.base.keep f _ hf hfn hfr (fun z => nomatch (show f ∈ ([] : List Addr) from z))
  refine PySem.W.callWith_F (first := []) ⟨_, _, _, _, at_ I1⟩ (thn (ha.run p2 pinsZ s1 σZ HZ _ I1 ht) fun us s2 ⟨vs, H2, I2, r, v, hvs, hc, q⟩ => ⟨⟨_, _, _, _, at_ I2⟩, ?_⟩) (he _) rfl
  subst hvs
  obtain ⟨u, rfl, rv⟩ := vals1 r
  have un : Un (frs X.stack) [] H H2 s.heap s2.heap := I2.base
  obtain ⟨⟨oc, ws, t, hoc, hdc, hvc⟩, _, _⟩ := I2.hok c' _ hc
  have rc : codeAny (model X.prog X.w) (X.A.deeper (envOfC qg sg s.heap.objs.size g cdg)) (.call (.ref f) ⟨[u], []⟩) (CR (L2.CX X.prog X.w) (envOfC qg sg s.heap.objs.size g cdg :: X.stack) X.prog X.w H2 s2 Q (fun _ _ _ => False)) s2 := by
    refine PySem.W.kla_callFunE hr.depth (at_ I2) rfl L.co L.gen rfl ⟨c', oc, ws, t, rfl, hoc, hdc, hvc⟩ ?_
    rw [hbind u]
    refine wpAny_pure (wpAny_newFunctionEnv L.nocell (fun y hy => ?_) (fun h₁ hns hsb => ⟨I2.nolimit.fresh _ hsb, ?_⟩) L.kind)
    · rw [List.mem_singleton.mp hy]
      exact L.par
    show codeAny _ _ (.expr body (lamEnv X scope s2.heap.objs.size f c')) _ _
    have kp : ∀ b o, s2.heap.get? b = some o → h₁.get? b = some o := fun b o e => hsb.extBut b o (Nat.ne_of_lt (Heap.lt_size e)) (Heap.get?_push_of_some _ e)
    have J : Inv (lamCx1 X (X.A.deeper (envOfC qg sg s.heap.objs.size g cdg)) (envOfC qg sg s.heap.objs.size g cdg :: X.stack) s2 H2 (fun _ _ _ => False) scope f c' b) [] (some v :: σ) H2 { s2 with heap := h₁, toks := s2.toks + ([(b, u)] : List (Str × Value)).length } :=
      lam1_start I L hb I2.env0 hr.hd un rv hns kp
    refine PySem.W.kla_codeExpr (wpAny_mono ((hbody _ _ s2 H2 _ (hr.deeper _)).run [] _ _ H2 Q J q) (fun v s' hq => ?_) fun e s' hq => hq)
    obtain ⟨w', H', J', rv, q⟩ := hq
    exact ⟨w', H', J'.os, J'.bare, J'.base, J'.hok, rv, q⟩
  have hx : Passes (L2.CX X.prog X.w) (cxOf CXg X.prog X.w X.K X.mg X.base Ng qg sg g cdg X.A X.stack s H Eg).nox (fun _ _ _ => False) := passes_call LamX.takes0 (fun _ _ _ _ z => z)
  show wpAny _ _ (call (.ref f) [u]) _ _ _
  refine wpAny_call (codeAny_mono rc fun r s' hq => ?_)
  cases r with
  | error e => exact hx pinsZ σZ H2 s2 e s' I2 hq
  | ok fl =>
    cases fl with
    | ret u => exact I2.after hq
    | next => exact False.elim hq
    | brk => exact False.elim hq
    | cont => exact False.elim hq
end
/-- the def that calls what it got third: a calls it; TT: what it makes of the lambda's reading -/
def Gives1 (X : Cx) (Ng : List Str) (x : Str) (sg : Scope) (g : Addr) (cdg : Value) (bg : List Stmt) (a : Str) (q : Str) (TT : V → V → (V → Hp → VK → Prop) → Hp → VK → Prop) : Prop :=
  ∀ (f c' : Addr) (s : Shared) (H : Hp) (Q : VK) (v1 v2 : V) (tl : V → Hp → VK → Prop),
    (∀ (e : Expr) (ta : TA) (p1 p2 : Pos), PA (cxOf C8.CX0 X.prog X.w X.K X.mg X.base Ng x sg g cdg X.A X.stack s H C8.E0).nox [e] ta → (∀ env, starEach [e] env = (false, eval e env) :: starEach [] env) →
      PE (cxOf C8.CX0 X.prog X.w X.K X.mg X.base Ng x sg g cdg X.A X.stack s H C8.E0).nox (.Call (.Name a p1) [e] [] p2) (fun σZ HZ Q => σZ[2]? = some (some (.ref f)) ∧ ta σZ HZ fun vs H1 => ∃ v, vs = [v] ∧ H1 c' = some (CodeO c' q) ∧ tl v H1 Q)) →
    Room 1 (X.A.deeper (envOfC x sg s.heap.objs.size g cdg)) → H c' = some (CodeO c' q) → TT v1 v2 tl H Q →
    ∃ t, PSs (cxOf C8.CX0 X.prog X.w X.K X.mg X.base Ng x sg g cdg X.A X.stack s H C8.E0).nox bg t ∧ t { nx := fun _ H' => Q .non H', rt := Q } (L2.start Ng [v1, v2, .ref f]) H
def tLam1 (T : List (Addr × Str)) (TT : V → V → (V → Hp → VK → Prop) → Hp → VK → Prop) (t1 t2 tb : TE) : TE := fun σ H Q => t1 σ H fun v1 H1 => t2 σ H1 fun v2 H2 => Tabs T H2 ∧ ∀ H3, ExtN H2 H3 → Tabs T H3 → TT v1 v2 (fun v H' Q' => tb (some v :: σ) H' Q') H3 Q
section
variable {X : Cx}
/-- x(e1, e2, lambda b: body) -/
theorem pe_lamcall1 {T : List (Addr × Str)} {TT : V → V → (V → Hp → VK → Prop) → Hp → VK → Prop} {x a b n1 n2 : Str} {g c P : Addr} {k : Nat} {pg : Arguments} {bg : List Stmt} {sg : Scope} {dV kV doc pm cdv ct oc : Value} {an od : Option Addr} {osl : Array (Option Value)} {Ng : List Str}
    {params : Arguments} {body e1 e2 : Expr} {scope : Scope} {t1 t2 tb : TE} {p lpos pos : Pos} (hg : Gl X x) (hm : X.mg x = some (.ref g)) (hk : PySem.W.keepIn X.K (.ref g) = true)
    (lk : X.K.lookup g = some ⟨oc, od, .func (PySem.W.fnOf x x pg bg sg dV kV doc pm an cdv ct), osl⟩) (hcg : PySem.W.codeIn X.K cdv x = true) (hbg : L2.Binds X.K (PySem.W.fnOf x x pg bg sg dV kV doc pm an cdv ct) [n1, n2, a] []) (Sg : FnScope Ng [n1, n2, a] sg) (hNg : Ng[2]? = some a) (hva : Vis sg a)
    (hG : Gives1 X Ng x sg g cdv bg a (X.env.qual ++ "<lambda>") TT) (h1 : PE X e1 t1) (h2 : PE X e2 t2) (TB : TabB X.base X.mg c P) (hcode : X.env.code = .ref c) (hmT : (P, X.env.qual ++ "<lambda>") ∈ T) (hu : ∀ p ∈ T, p.1 = P → p.2 = X.env.qual ++ "<lambda>") (hr : Room (k + 2) X.A)
    (L : LamS1 X.env.scope scope b) (hb : b ∉ X.N) (hdef : defaultsOf params X.env = ([], []))
    (hbind : ∀ (q : Str) (cl : List (Str × Addr)) (pm cv ctv u : Value), bindArgs (PySem.W.kla_fn "<lambda>" q params body scope cl pm cv ctv) ⟨[u], []⟩ = pure [(b, u)])
    (hbody : ∀ (A : Around) (outer : List Env) (s : Shared) (H : Hp) (E : XK) (f c' : Addr), Room k (A.deeper (lamEnv X scope s.heap.objs.size f c')) → PE (lamCx1 X A outer s H E scope f c' b) body tb)
    (he : starEach [e1, e2, .Lambda params body scope lpos] X.env = (false, eval e1 X.env) :: starEach [e2, .Lambda params body scope lpos] X.env := by rfl)
    (he2 : starEach [e2, .Lambda params body scope lpos] X.env = (false, eval e2 X.env) :: starEach [.Lambda params body scope lpos] X.env := by rfl)
    (hpl : (backTo pos (starEach [e2, .Lambda params body scope lpos] X.env)).any (·.1) = false := by rfl)
    (hdb : (x == ("__debug__" : Str)) = false := by decide) (hd : (a == ("__debug__" : Str)) = false := by decide) (hcd : (a == ("__classdict__" : Str)) = false := by decide) :
    PE X (.Call (.Name x p) [e1, e2, .Lambda params body scope lpos] [] pos) (tLam1 T TT t1 t2 tb) := by
  refine ⟨fun pins s σ H Q I h => ?_⟩
  refine wpAny_Call_Name_kw (ld_glob I hg hm ?_ hdb)
  refine PySem.W.callWith_K (h₀ := X.base) I.ok.mod.kin hk ?_ he hpl
  rw [he]
  show wpAny _ _ (spliced ((false, eval e1 X.env) :: backTo pos (starEach [e2, .Lambda params body scope lpos] X.env))) _ _ s
  refine Calls.spliced_cons (thn (h1.run pins s σ H _ I h) fun u1 s1 ⟨v1, H1, I1, r1, q1⟩ => ?_)
  rw [he2]
  show wpAny _ _ (spliced ((false, eval e2 X.env) :: backTo pos (starEach [.Lambda params body scope lpos] X.env))) _ _ s1
  refine Calls.spliced_cons (thn (h2.run pins s1 σ H1 _ I1 q1) fun u2 s2 ⟨v2, H2, I2, r2, q2⟩ => ?_)
  obtain ⟨hT, q2⟩ := q2
  show wpAny _ _ (spliced ((false, eval (.Lambda params body scope lpos) X.env) :: backTo pos (starEach [] X.env))) _ _ s2
  refine Calls.spliced_cons (lam_make2 I2 TB hcode hmT hu hT hdef (L.has I2.ok) fun f c' pm' ctv H3 s' I3 eN T3 hf hfn hfr hco => ?_)
  refine Calls.spliced_nil ⟨I3.kIn, ?_⟩
  have rc : codeAny (model X.prog X.w) X.A (.call (.ref g) ⟨[u1, u2, .ref f], []⟩) (CR C8.CX0 X.stack X.prog X.w H3 s' Q C8.E0) s' := by
    refine run_ofS (N := Ng) (ps := [n1, n2, a]) (us := [u1, u2, .ref f]) (vs := [v1, v2, .ref f]) lk hcg Sg hr I3.env0 (hbg s' [u1, u2, .ref f] I3.kIn rfl) (.cons r1 (.cons r2 (.cons rfl .nil))) rfl fun hr' => ?_
    obtain ⟨t', ht', hq'⟩ := hG f c' s' H3 Q v1 v2 (fun v H' Q' => tb (some v :: σ) H' Q') (fun e ta p1 p2 ha hes => pe_act1 (i := 2) I3 L hb hf hfn hfr (hbind _ _ _ _ _) hr' (fun A outer s H E hr2 => hbody A outer s H E f c' hr2) hNg hva ha hd hcd hes) (hr'.mono (by omega)) hco (q2 H3 eN T3)
    exact ⟨t', ht'.nox, hq'⟩
  refine wpAny_call (codeAny_mono rc fun r s2 hq => ?_)
  cases r with
  | error e => exact (show False from hq).elim
  | ok fl =>
    cases fl with
    | ret u => exact I3.after hq
    | next => exact False.elim hq
    | brk => exact False.elim hq
    | cont => exact False.elim hq
end
end Hr

/-! What calls keep that may add to tables of code objects; decks beside such tables. -/
namespace Hr
open PySem PySem.Spec PyProof.Rows L2 Evl LamX
/-- all but the tables stays, and what is told of the tables T -/
structure Ek (T : List (Addr × Str)) (H H' : Hp) : Prop where
  x : ExtN H H'
  t : Tabs T H → Tabs T H'
section
variable {T : List (Addr × Str)} {G G' H H' H1 H2 : Hp} {d p o : Addr} {u : HO}
theorem Ek.get (e : Ek T H H') {b : Addr} {o : HO} (h : H b = some o) (n : ∀ ps, o ≠ .tbl ps := by intro _ z; cases z) : H' b = some o := e.x b o h n
theorem Ek.of (e : Ex H H') : Ek T H H' := ⟨ExtN.of e, fun t => t.ext e⟩
instance : Coe (Ex H H') (Ek T H H') := ⟨Ek.of⟩
theorem Ek.refl (H : Hp) : Ek T H H := .of (Ex.refl H)
theorem Ek.trans (a : Ek T H H1) (b : Ek T H1 H2) : Ek T H H2 := ⟨a.x.trans b.x, fun t => b.t (a.t t)⟩
theorem Ek.ex (a : Ek T H H1) (b : Ex H1 H2) : Ek T H H2 := a.trans (.of b)
theorem Ek.new {o : HO} (h : H p = none) : Ek T H (upd H p o) := .of (Ex.new h)
/-- a thing of ours is written -/
theorem Ek.mut (e : Ek T H H') (no : H o = none) (ho : H' o = some v) (nt : ∀ ps, v ≠ .tbl ps) (nc : ∀ q, v ≠ CodeO o q) : Ek T H (upd H' o u) := by
  refine ⟨fun b w h n => ?_, fun t => ?_⟩
  · rw [upd_ne (ne_of_none h no)]
    exact e.x b w h n
  · intro q hq
    obtain ⟨ps, h1, h2, h3⟩ := e.t t q hq
    refine ⟨ps, ?_, h2, fun pos cv hc => ?_⟩
    · rw [upd_ne (fun z => nt ps (Option.some.inj (ho.symm.trans (by rw [← z]; exact h1))))]
      exact h1
    · obtain ⟨c, e1, e2⟩ := h3 pos cv hc
      refine ⟨c, e1, ?_⟩
      by_cases z : c = o
      · rw [z] at e2
        exact absurd (Option.some.inj (ho.symm.trans e2)) (nc _)
      · rw [upd_ne z]
        exact e2
theorem Ek.mutL {xs : List V} (e : Ek T H H') (no : H o = none) (ho : H' o = some (.lst xs)) : Ek T H (upd H' o u) := e.mut no ho (fun _ z => by cases z) (fun _ z => by unfold CodeO at z; cases z)
/-- a def that hands back v -/
def RetVk (T : List (Addr × Str)) (v : V) (H : Hp) (Q : VK) : Prop := ∀ H2, Ek T H H2 → Q v H2
/-- .. a tuple -/
def RetTk (T : List (Addr × Str)) (xs : List V) (H : Hp) (Q : VK) : Prop := ∀ p H2, Ek T H H2 → H2 p = some (.tup xs) → Q (.ref p) H2
/-- a deck, what is known beside it, the tables -/
structure DkT (T : List (Addr × Str)) (G : Hp) (d : Addr) (H : Hp) : Prop where
  k : Dk G d H
  n : NT G
  t : Tabs T H
theorem DkT.moreK (k : DkT T G d H) (e : Ek T H H') : DkT T G d H' := ⟨k.k.moreN k.n e.x, k.n, e.t k.t⟩
theorem DkT.more (k : DkT T G d H) (e : Ex H H') : DkT T G d H' := k.moreK (.of e)
theorem DkT.new {o : HO} (k : DkT T G d H) (h : H p = none) : DkT T G d (upd H p o) := k.moreK (.new h)
theorem DkT.get (k : DkT T G d H) {b : Addr} {u : HO} (h : G b = some u) : H b = some u := k.k.get h
theorem DkT.free (k : DkT T G d H) (h : H p = none) : G p = none := k.k.free h
theorem DkT.gex {o : HO} (k : DkT T G d H) (h : H p = none) : Ex G (upd G p o) := k.k.gex h
theorem NT.upd (n : NT G) (nt : ∀ ps, u ≠ .tbl ps) : NT (upd G p u) := fun b o h => by
  by_cases z : b = p
  · rw [z, upd_same] at h
    cases h
    exact nt
  · rw [upd_ne z] at h
    exact n b o h
theorem DkT.made {o : HO} (k : DkT T G d H) (h : H p = none) (nt : ∀ ps, o ≠ .tbl ps := by intro _ z; cases z) : DkT T (upd G p o) d (upd H p o) := ⟨k.k.made h, k.n.upd nt, k.t.ext (Ex.new h)⟩
theorem DkT.growK (k : DkT T G d H) (h : H p = none) (e : Ek T H H') (hp : H' p = some u) (nt : ∀ ps, u ≠ .tbl ps := by intro _ z; cases z) : DkT T (upd G p u) d H' := by
  obtain ⟨c, x, m, i, z⟩ := (k.k.moreN k.n e.x)
  obtain ⟨c0, x0, m0, i0, z0⟩ := k.k
  have hd0 : H d ≠ none := fun y => by rw [z0.hd] at y; cases y
  have hpd : p ≠ d := fun y => hd0 (by rw [← y]; exact h)
  refine ⟨⟨c0, x0, m0, i0, fun b o hb => ?_, ?_, ?_, e.x _ _ z0.hd (fun _ y => by cases y), e.x _ _ z0.hc (fun _ y => by cases y), z0.len, z0.m0, z0.m1⟩, k.n.upd nt, e.t k.t⟩
  · by_cases y : b = p
    · rw [y, upd_same] at hb
      cases hb
      rw [y]
      exact hp
    · rw [upd_ne y] at hb
      exact e.x _ _ (z0.ex _ _ hb) (k.n b o hb)
  · rw [upd_ne (Ne.symm hpd)]
    exact z0.gd
  · have hpc : p ≠ c0 := fun y => by
      have := z0.hc
      rw [← y, h] at this
      cases this
    rw [upd_ne (Ne.symm hpc)]
    exact z0.gc
theorem DkT.grow (k : DkT T G d H) (h : H p = none) (e : Ex H H') (hp : H' p = some u) (nt : ∀ ps, u ≠ .tbl ps := by intro _ z; cases z) : DkT T (upd G p u) d H' := k.growK h (.of e) hp nt
/-- what a promise about decks needs, and what it gives back -/
theorem DkT.full (k : DkT T G d H) : ∃ Gf, Dk Gf d H ∧ (∀ {G' H'}, Ex Gf G' → Dk G' d H' → DkT T (nt G') d H' ∧ Ex G (nt G')) ∧ (∀ {H'}, Dk Gf d H' → DkT T G d H') ∧ ∀ b o, G b = some o → Gf b = some o := by
  obtain ⟨Gf, e, kf, tf⟩ := k.k.full k.t
  have tabs : ∀ {G' H'}, Ex Gf G' → Dk G' d H' → Tabs T H' := fun a b => (tf.ext a).ext b.ex
  refine ⟨Gf, kf, fun a b => ⟨⟨b.nt, nt_NT _, tabs a b⟩, fun x o h => nt_at (a _ _ (e _ _ h)) (k.n x o h)⟩, fun b => ⟨?_, k.n, tabs (Ex.refl _) b⟩, e⟩
  obtain ⟨c, x, m, i, z⟩ := b
  obtain ⟨c0, x0, m0, i0, z0⟩ := k.k
  refine ⟨c, x, m, i, e.trans z.ex, z0.gd, ?_, z.hd, z.hc, z.len, z.m0, z.m1⟩
  cases h : G c with
  | none => rfl
  | some o =>
    have := z.gc
    rw [e _ _ h] at this
    cases this
theorem DkT.start (k : Dk H d H1) (t : Tabs T H) : DkT T (nt H) d H1 := ⟨k.nt, nt_NT H, t.ext k.ex⟩
end
end Hr

/-! Defs that make lambdas, where no repr is under way: their code object is told; the law's end with tables of code objects. -/
namespace Hr
open PySem PySem.Spec PyProof.Rows L2 LamX
section
variable {P : Program} {w : World} {K : PySem.W.Frag} {mg : Str → Option Value} {base : Heap} {CX : CXT} {k : Nat} {f : Addr} {fd : FuncData} {ps : List Str} {sp : Sp}
theorem bodyGc {x qual : Str} {st : Stmt} {N : List Str} (F : Fun K x qual st f fd) (S : FnScope N ps (defScope st)) (len : ∀ vs H Q E, sp vs H Q E → vs.length = ps.length)
    (hb : ∀ (cdv : Value) (A : Around) (around : List Env) (s : Shared) (H : Hp) (vs : List V) (Q : VK) (E : XK), fd.code = cdv → Room k (A.deeper (envOfC qual (defScope st) s.heap.objs.size f cdv)) → A.guards = some [] → sp vs H Q E →
      ∃ t, PSs (cxOf CX P w K mg base N qual (defScope st) f cdv A around s H E) (defBody st) t ∧ t { nx := fun _ H' => Q .non H', rt := Q } (start N vs) H) :
    FnG P w K mg base CX (k + 1) f fd ps sp := by
  obtain ⟨oc, od, kV, doc, pm, an, cdv, ct, osl, rfl, lk, hcd⟩ := F.ex
  refine ⟨len, ?_⟩
  intro A around s H as us vs Q E r g e0 bind rv hq
  have KX : K.In s.heap := e0.mod.kin.keeps fun b o e => (e0.bs b o e).1
  have kinds : ∀ y ∈ ps.zip us, (defScope st).names.lookup y.1 = some .local ∨ ((defScope st).names.lookup y.1 = some .cell ∧ ((cellsFrom (s.heap.objs.size + 1) (defScope st).names []).lookup y.1).isSome = true) := by
    rintro ⟨n, v⟩ hy
    rcases S.par n (List.of_mem_zip hy).1 with q | q
    · exact .inl q
    · exact .inr ⟨q, PySem.W.cellsFrom_some _ _ _ (.inl q)⟩
  refine codeAny_call_function r.depth (KX _ _ lk) rfl S.co S.gen rfl (PySem.W.codeRec_of KX hcd) (bind _ _ _ _ ?_)
  refine wpAny_newFunctionEnv_cells S.kind kinds ?_
  intro env he s1 x
  subst he
  refine ⟨Heap.NoLimit.keeps (e0.mod.nolimit.keeps fun b o e => (e0.bs b o e).1) x.toInCall.keep, codeAny_func ?_⟩
  obtain ⟨t, ht, hrun⟩ := hb cdv A around s H vs Q E rfl (r.deeper _) g hq
  have I := inv_start (CX := CX) (E := E) S r.hd e0 (len _ _ _ _ hq) rv x
  refine wpAny_mono (ht.run [] s1 (start N vs) H _ I hrun) ?_ (fun e s' hs => hs)
  intro fl s' hs
  cases fl with
  | ret u =>
    obtain ⟨v, σ', H', J, rv', q⟩ := hs
    exact ⟨v, H', J.os, J.bare, J.base, J.hok, rv', q⟩
  | next =>
    obtain ⟨σ', H', J, q⟩ := hs
    exact ⟨V.non, H', J.os, J.bare, J.base, J.hok, rfl, q⟩
  | brk => exact hs.elim fun _ ⟨_, _, q⟩ => q.elim
  | cont => exact hs.elim fun _ ⟨_, _, q⟩ => q.elim
theorem okGc {x qual : Str} {st : Stmt} {N : List Str} (F : Fun K x qual st f fd) (S : FnScope N ps (defScope st)) (len : ∀ vs H Q E, sp vs H Q E → vs.length = ps.length)
    (hb : ∀ (cdv : Value) (A : Around) (around : List Env) (s : Shared) (H : Hp) (vs : List V) (Q : VK) (E : XK), fd.code = cdv → Room k (A.deeper (envOfC qual (defScope st) s.heap.objs.size f cdv)) → A.guards = some [] → sp vs H Q E →
      ∃ t, PSs (cxOf CX0 P w K mg base N qual (defScope st) f cdv A around s H E).nox (defBody st) t ∧ t { nx := fun _ H' => Q .non H', rt := Q } (start N vs) H) :
    FnG P w K mg base CX0 (k + 1) f fd ps sp :=
  bodyGc F S len fun cdv A around s H vs Q E c r g h => by
    obtain ⟨t, ht, q⟩ := hb cdv A around s H vs Q E c r g h
    exact ⟨t, ht.nox, q⟩
end
/-- the heap at the start: the script, if it is no part of the text, and the empty tables -/
def OnlyT (cs : List (Addr × Addr)) (a : Addr) (K : PySem.W.Frag) (H : Hp) : Prop :=
  ∀ b, H b = none ∨ (b ∈ cs.map (·.2) ∧ H b = some (.tbl #[])) ∨ (b = a ∧ K.lookup a = none ∧ ∃ o xs, H b = some (.frz o (.lst xs)))
section
variable {P : Program} {w : World} {K : PySem.W.Frag} {mg mb : Str → Option Value} {k : Nat} {fa a : Addr} {fd : FuncData} {x : Str} {sp : Sp} {s₁ : Shared} {vs : List Value} {ns : List Int} {cs : List (Addr × Addr)}
theorem lawT0 {H : Hp} (KX : K.In s₁.heap) (hns : s₁.heap.Ns mainGlobals mg) (hb : s₁.heap.Ns builtinsNs mb) (hbb : ∀ x : Str, x ≠ "__name__" → mb x = bootBuiltins x) (hlim : s₁.heap.NoLimit) (hg : s₁.gens = #[])
    (hT : ∀ p ∈ cs, s₁.heap.get? p.2 = some { cls := .none, data := .fields #[] }) (nT : ∀ p ∈ cs, K.lookup p.2 = none) (C : ∀ p ∈ cs, PySem.W.CodeHd s₁.heap p.1 p.2)
    (hbm : ∃ (bm : Addr) (ob : Obj), mg "__builtins__" = some (.ref bm) ∧ bm ≠ builtinsNs ∧ s₁.heap.get? bm = some ob ∧ ob.cls = .type "module" ∧ ob.dict = some builtinsNs ∧ ob.data = .plain)
    (ha : s₁.heap.get? a = some { cls := .type "list", data := .seq vs.toArray }) (hr : Room k callerA)
    (F : ∀ base : Heap, K.In base → base.Ns mainGlobals mg → (∀ p ∈ cs, TabB base mg p.1 p.2) → FnG P w K mg base CX0 k fa fd [x] sp) (hbind : ∀ (s : Shared) (u : Value), BindsTo s fd ⟨[u], []⟩ [(x, u)])
    (hO : OnlyT cs a K H) (hP : ∀ p ∈ cs, H p.2 = some (.tbl #[])) (hok : HOk P w H s₁.heap) (hsp : sp [.ref a] H (fun v _ => v = .bl true) fun _ _ _ => False) :
    codeAny (model P w) callerA (.call (.ref fa) ⟨[.ref a], []⟩) (fun r s' => r = .ok (.ret (.bool true)) ∧ OldK s₁.heap s'.heap ∧ s'.os = s₁.os ∧ AllBare s'.gens) s₁ := by
  have tabAt : ∀ b ∈ cs.map (·.2), s₁.heap.get? b = some { cls := .none, data := .fields #[] } := by
    intro b hb
    obtain ⟨p, hp, rfl⟩ := List.mem_map.mp hb
    exact hT p hp
  have untold : ∀ {b : Addr} {o : Obj}, s₁.heap.get? b = some o → ((∀ xs n, o.data ≠ .seq xs n) ∧ o.data ≠ .fields #[]) ∨ K.lookup b ≠ none → H b = none := by
    intro b o e z
    rcases hO b with q | ⟨q, _⟩ | ⟨rfl, q, _⟩
    · exact q
    · rcases z with z | z
      · have t := tabAt b q
        rw [e] at t
        cases t
        exact absurd rfl z.2
      · obtain ⟨p, hp, rfl⟩ := List.mem_map.mp q
        exact absurd (nT p hp) z
    · rcases z with z | z
      · rw [ha] at e
        cases e
        exact absurd rfl (z.1 _ _)
      · exact absurd q z
  have dictU : ∀ {b : Addr} {o : Obj} {es : Array DictEntry} {ep : Nat}, s₁.heap.get? b = some o → o.data = .dict es ep → H b = none := fun e d => untold e (.inl ⟨(fun xs n z => by rw [d] at z; cases z), (fun z => by rw [d] at z; cases z)⟩)
  have nsB : ∀ {b : Addr} {m : Str → Option Value}, s₁.heap.Ns b m → (hidT s₁.heap H).Ns b m := by
    rintro b m ⟨o, es, ep, e, d, r⟩
    exact ⟨o, es, ep, hidT_get e (dictU e d), d, r⟩
  have hKb : K.In (hidT s₁.heap H) := fun b o e => hidT_get (KX b o e) (untold (KX b o e) (.inr (by rw [e]; exact Option.some_ne_none o)))
  have hM : Mod K mg (hidT s₁.heap H) := ⟨hKb, nsB hns, ⟨mb, nsB hb, hbb⟩, hlim.elim fun mc z => ⟨mc, nsB z.1, z.2⟩⟩
  have TB : ∀ p ∈ cs, TabB (hidT s₁.heap H) mg p.1 p.2 := by
    intro p hp
    have tp := hT p hp
    refine ⟨?_, ?_, fun z => ?_⟩
    · obtain ⟨o, us, file, tf, flags, tg, inF, text, tt, g1, g0, g2, g3, rest⟩ := C p hp
      refine ⟨o, us, file, tf, flags, tg, inF, text, tt, hidT_get g1 (untold g1 (.inl ⟨fun xs n z => ?_, fun z => ?_⟩)), g0, g2, g3, rest⟩
      · rw [g2] at z
        cases z
      · rw [g2] at z
        cases z
        simp at g3
    · obtain ⟨bm, ob, b1, b2, b3, b4, b5, b6⟩ := hbm
      refine ⟨bm, ob, b1, b2, fun q => ?_, fun q => ?_, hidT_get b3 (untold b3 (.inl ⟨fun xs n z => ?_, fun z => ?_⟩)), b4, b5, b6⟩
      · obtain ⟨o, es, ep, e, hd, _⟩ := hns
        rw [q, e] at b3
        cases b3
        rw [hd] at b6
        cases b6
      · rw [q, tp] at b3
        cases b3
        cases b6
      · rw [b6] at z
        cases z
      · rw [b6] at z
        cases z
    · obtain ⟨o, es, ep, e, hd, _⟩ := hns
      rw [z, tp] at e
      cases e
      cases hd
  have e0 : Env0 P w K mg (hidT s₁.heap H) callerA [] s₁ H :=
    ⟨rfl, hM, fun b o e => of_hidT e, Nat.le_of_eq (hidT_size _ _), trivial, fun b hb => absurd hb List.not_mem_nil, hok, .of_eq hg⟩
  refine codeAny_mono ((F _ hKb (nsB hns) TB).go callerA [] s₁ H ⟨[.ref a], []⟩ [.ref a] [.ref a] _ _ hr rfl e0 (hbind s₁ (.ref a)) (.cons rfl .nil) hsp) ?_
  intro r s' h
  cases r with
  | error e => exact False.elim h
  | ok fl => cases fl with
    | next => exact False.elim h
    | brk => exact False.elim h
    | cont => exact False.elim h
    | ret u =>
      obtain ⟨v, H', os, bare, un, hok', r', q⟩ := h
      have q' : v = .bl true := q
      subst q'
      have r2 : u = Value.bool true := r'
      subst r2
      have same : ∀ b o, b ∉ cs.map (·.2) → s₁.heap.get? b = some o → s'.heap.get? b = some o := by
        intro b o nb e
        rcases hO b with z | ⟨z, _⟩ | ⟨rfl, _, ob, xs, z⟩
        · exact un.keep b o e z List.not_mem_nil List.not_mem_nil
        · exact absurd z nb
        · obtain ⟨e1, _⟩ := hok _ _ z
          obtain ⟨e2, _⟩ := hok' _ _ (un.frzs _ ob _ z)
          rw [e] at e1
          cases e1
          exact e2
      have grown : ∀ b ∈ cs.map (·.2), ∃ more : Array Value, s'.heap.get? b = some { cls := .none, data := .fields more } := by
        intro b hb
        obtain ⟨p, hp, rfl⟩ := List.mem_map.mp hb
        obtain ⟨more, z⟩ := un.tbls p.2 #[] (hP p hp)
        exact ⟨_, hok' p.2 _ z⟩
      refine ⟨rfl, ⟨fun b o e => ?_, fun b o e => ?_⟩, os, bare⟩
      · by_cases hb : b ∈ cs.map (·.2)
        · obtain ⟨more, hm⟩ := grown b hb
          obtain ⟨p, hp, rfl⟩ := List.mem_map.mp hb
          rw [hT p hp] at e
          cases e
          exact .inr (.inl ⟨((C p hp).tab (hT p hp)).isCodeTable, rfl, #[], more, rfl, by rw [Array.empty_append]; exact hm⟩)
        · exact .inl (same b o hb e)
      · by_cases hb : b ∈ cs.map (·.2)
        · obtain ⟨more, hm⟩ := grown b hb
          exact ⟨_, hm⟩
        · exact ⟨o, same b o hb e⟩
theorem lawT (KX : K.In s₁.heap) (hns : s₁.heap.Ns mainGlobals mg) (hb : s₁.heap.Ns builtinsNs mb) (hbb : ∀ x : Str, x ≠ "__name__" → mb x = bootBuiltins x) (hlim : s₁.heap.NoLimit) (hg : s₁.gens = #[])
    (hT : ∀ p ∈ cs, s₁.heap.get? p.2 = some { cls := .none, data := .fields #[] }) (nT : ∀ p ∈ cs, K.lookup p.2 = none) (C : ∀ p ∈ cs, PySem.W.CodeHd s₁.heap p.1 p.2)
    (hbm : ∃ (bm : Addr) (ob : Obj), mg "__builtins__" = some (.ref bm) ∧ bm ≠ builtinsNs ∧ s₁.heap.get? bm = some ob ∧ ob.cls = .type "module" ∧ ob.dict = some builtinsNs ∧ ob.data = .plain)
    (ha : s₁.heap.get? a = some { cls := .type "list", data := .seq vs.toArray }) (hi : IntsAre vs ns) (hl : ns.length ≤ sizeLine) (hr : Room k callerA)
    (F : ∀ base : Heap, K.In base → base.Ns mainGlobals mg → (∀ p ∈ cs, TabB base mg p.1 p.2) → FnG P w K mg base CX0 k fa fd [x] sp) (hbind : ∀ (s : Shared) (u : Value), BindsTo s fd ⟨[u], []⟩ [(x, u)])
    (hsp : ∀ H : Hp, (∀ p ∈ cs, H p.2 = some (.tbl #[])) → SqL K H a (ns.map V.int) → sp [.ref a] H (fun v _ => v = .bl true) fun _ _ _ => False) :
    codeAny (model P w) callerA (.call (.ref fa) ⟨[.ref a], []⟩) (fun r s' => r = .ok (.ret (.bool true)) ∧ OldK s₁.heap s'.heap ∧ s'.os = s₁.os ∧ AllBare s'.gens) s₁ := by
  have rv := vals_ints hi
  have tabAt : ∀ b ∈ cs.map (·.2), s₁.heap.get? b = some { cls := .none, data := .fields #[] } := by
    intro b hb
    obtain ⟨p, hp, rfl⟩ := List.mem_map.mp hb
    exact hT p hp
  have na : a ∉ cs.map (·.2) := fun z => by
    have q := tabAt a z
    rw [ha] at q
    have q' : Data.seq vs.toArray _ = Data.fields #[] := congrArg Obj.data (Option.some.inj q)
    cases q'
  cases hk : K.lookup a with
  | some o =>
    have e := KX a o hk
    rw [ha] at e
    cases e
    have hP : ∀ p ∈ cs, (fun b => if b ∈ cs.map (·.2) then some (HO.tbl #[]) else none : Hp) p.2 = some (.tbl #[]) := fun p hp => if_pos (List.mem_map.mpr ⟨p, hp, rfl⟩)
    refine lawT0 (H := fun b => if b ∈ cs.map (·.2) then some (.tbl #[]) else none) KX hns hb hbb hlim hg hT nT C hbm ha hr F hbind (fun b => ?_) hP (fun b u z => ?_) (hsp _ hP (.inr ⟨_, vs.toArray, _, hk, rfl, rfl, rfl, ?_, ?_⟩))
    · by_cases h : b ∈ cs.map (·.2)
      · exact .inr (.inl ⟨h, if_pos h⟩)
      · exact .inl (if_neg h)
    · by_cases h : b ∈ cs.map (·.2)
      · cases (if_pos h).symm.trans z
        exact tabAt b h
      · cases (if_neg h).symm.trans z
    · rw [List.size_toArray, hi.length]
      exact hl
    · rw [List.toList_toArray]
      exact rv
  | none =>
    have hP : ∀ p ∈ cs, (upd (fun b => if b ∈ cs.map (·.2) then some (HO.tbl #[]) else none) a (.frz { cls := .type "list", data := .seq vs.toArray } (.lst (ns.map V.int))) : Hp) p.2 = some (.tbl #[]) := fun p hp => by
      have m : p.2 ∈ cs.map (·.2) := List.mem_map.mpr ⟨p, hp, rfl⟩
      rw [upd_ne (show p.2 ≠ a from fun z => na (by rw [← z]; exact m))]
      exact if_pos m
    refine lawT0 (H := upd (fun b => if b ∈ cs.map (·.2) then some (.tbl #[]) else none) a (.frz { cls := .type "list", data := .seq vs.toArray } (.lst (ns.map V.int)))) KX hns hb hbb hlim hg hT nT C hbm ha hr F hbind (fun b => ?_) hP (fun b u z => ?_) (hsp _ hP (.inl (.inr ⟨_, upd_same⟩)))
    · by_cases h : b = a
      · subst h
        exact .inr (.inr ⟨rfl, hk, _, _, upd_same⟩)
      · rw [upd_ne h]
        by_cases h2 : b ∈ cs.map (·.2)
        · exact .inr (.inl ⟨h2, if_pos h2⟩)
        · exact .inl (if_neg h2)
    · by_cases h : b = a
      · subst h
        rw [upd_same] at z
        cases z
        exact ⟨ha, by rw [List.length_map]; exact hl, vs, _, rv, ha⟩
      · rw [upd_ne h] at z
        by_cases h2 : b ∈ cs.map (·.2)
        · cases (if_pos h2).symm.trans z
          exact tabAt b h2
        · cases (if_neg h2).symm.trans z
end
/-- what is to be shown of a law whose defs make lambdas -/
def LawT (l : PySem.W.OpenLaw) (w : World) (K : PySem.W.Frag) (k n : Nat) (x : Str) (mg : Str → Option Value) (fa : Addr) (h : Heap) : Prop :=
  ∃ (fd : FuncData) (cs : List (Addr × Addr)) (sp : Sp), (∀ p ∈ cs, h.get? p.2 = some { cls := .none, data := .fields #[] }) ∧ (∀ p ∈ cs, K.lookup p.2 = none) ∧ (∀ p ∈ cs, PySem.W.CodeHd h p.1 p.2) ∧ (∀ (s : Shared) (u : Value), BindsTo s fd ⟨[u], []⟩ [(x, u)]) ∧
    (∀ (H : Hp) (a : Addr) (ns : List Int), ns.length ≤ n → (∀ p ∈ cs, H p.2 = some (.tbl #[])) → SqL K H a (ns.map V.int) → sp [.ref a] H (fun v _ => v = .bl true) fun _ _ _ => False) ∧
    ∀ base : Heap, K.In base → base.Ns mainGlobals mg → (∀ p ∈ cs, TabB base mg p.1 p.2) → FnG l.prog w K mg base CX0 k fa fd [x] sp
theorem walkT {l : PySem.W.OpenLaw} {n k : Nat} {q : Program} {loose : List Str} {XP : (Str → Option Value) → Heap → Prop} {YP : World → Heap → Prop} {d : DefRec} {K : Params → PySem.W.Frag} {x : Str}
    (hn : l.most = some n) (hn2 : n ≤ sizeLine) (hdf : d.params.defaults = []) (hr : Room k callerA) (hY : ∀ (w : World) (h : Heap), YP w h → (K w.params).In h)
    (F : ∀ (w : World) (mg mb : Str → Option Value) (fa : Addr) (h : Heap) (lo : List Str) (me : ExcName → Option Value), YP w h → (K w.params).In h → Top q lo me mg mb h → mg d.name = some (.ref fa) → LawT l w (K w.params) k n x mg fa h) :
    PySem.W.WalkO q loose XP YP l.row.toRowW d [] (fun f vs => PySem.call f vs) := by
  refine Att.attach_callB hn hdf fun w s₀ s₁ mg mb fa o pm cd doc a vs ns G Y ho hd hcd hmg hobj hints hlen hbits hg => ?_
  have KX := hY w _ Y
  obtain ⟨fd, cs, sp, hT, nT, C, hb, hsp, hF⟩ := F w mg mb fa _ _ _ Y KX G.T hmg
  exact lawT KX G.T.g G.T.b G.T.builtins G.T.nolimit hg hT nT C G.T.bmain hobj hints (Nat.le_trans hlen hn2) hr hF hb fun H hH hS => hsp H a ns hlen hH hS
theorem tabIn_of {K : PySem.W.Frag} {x : Str} {f c P : Addr} {oc : Value} {od : Option Addr} {fd : FuncData} {sl : Array (Option Value)} {ob : Value} {oe : Option Addr} {vs : Array Value} {of : Array (Option Value)} (a : PySem.W.nsIn K mainGlobals x = some (some (.ref f))) (l : K.lookup f = some ⟨oc, od, .func fd, sl⟩) (hc : fd.code = .ref c)
    (lc : K.lookup c = some ⟨ob, oe, .fields vs, of⟩) (hv : vs[11]? = some (.ref P)) : PySem.W.tabIn K x = some (c, P) := by
  unfold PySem.W.tabIn
  rw [a]
  simp only [l, hc, lc, hv]
end Hr

/-! t + u and t[lo:hi] of tuples, whole or not: what comes is new, or one of them. -/
namespace Hr
open PySem PySem.Spec PyProof.Rows L2 Evl
/-- p holds the tuple zs at H', that is H, or H with p new -/
def Came (H : Hp) (p : Addr) (zs : List V) (H' : Hp) (old : List Addr) : Prop := (H' = H ∧ p ∈ old ∧ H p = some (.tup zs)) ∨ (H p = none ∧ H' = upd H p (.tup zs))
theorem Came.ex {H H' : Hp} {p : Addr} {zs : List V} {old : List Addr} (c : Came H p zs H' old) : Ex H H' := by
  rcases c with ⟨rfl, _, _⟩ | ⟨h, rfl⟩
  · exact Ex.refl _
  · exact Ex.new h
theorem Came.at {H H' : Hp} {p : Addr} {zs : List V} {old : List Addr} (c : Came H p zs H' old) : H' p = some (.tup zs) := by
  rcases c with ⟨rfl, _, h⟩ | ⟨h, rfl⟩
  · exact h
  · exact upd_same
def rCatN : R2 := fun x y H Q => ∃ a b xs ys, x = .ref a ∧ y = .ref b ∧ H a = some (.tup xs) ∧ H b = some (.tup ys) ∧ xs.length + ys.length ≤ sizeLine ∧ ∀ p H', Came H p (xs ++ ys) H' [a, b] → Q (.ref p) H'
theorem op_catN {X : Cx} : OpR X (binaryOp .Add) rCatN := by
  intro pins s σ H x y v u Q I rx ry h
  obtain ⟨a, b, xs, ys, ex, ey, ha, hb, hz, q⟩ := h
  refine op_catA pins s σ H x y v u Q I rx ry ⟨a, b, xs, ys, ex, ey, SqT.of ha, SqT.of hb, hz, fun e => ?_, fun _ e => ?_, fun _ _ p np => ?_⟩
  · refine q b H (.inl ⟨rfl, by simp, ?_⟩)
    rw [e]
    exact hb
  · refine q a H (.inl ⟨rfl, by simp, ?_⟩)
    rw [e, List.append_nil]
    exact ha
  · exact q p _ (.inr ⟨np, rfl⟩)
def rSlN : V → Option Int → Option Int → Hp → VK → Prop := fun x lo hi H Q => ∃ a xs, x = .ref a ∧ H a = some (.tup xs) ∧ ∀ p H', Came H p (cutV xs lo hi) H' [a] → Q (.ref p) H'
theorem sl_tupN {X : Cx} : SlR X rSlN := by
  intro pins s σ H x v vl vu lo hi sl Q I rx hs pl pu h
  obtain ⟨a, xs, ex, ha, q⟩ := h
  refine sl_tupA pins s σ H x v vl vu lo hi sl Q I rx hs pl pu ⟨a, xs, ex, SqT.of ha, fun w => ?_, fun _ p np => q p _ (.inr ⟨np, rfl⟩)⟩
  refine q a H (.inl ⟨rfl, by simp, ?_⟩)
  have e : cutV xs lo hi = xs := by
    unfold cutV
    rw [w.1, w.2, List.drop_zero, Nat.sub_zero, List.take_length]
  rw [e]
  exact ha
/-- beside a deck -/
theorem Dk.came {G H H' : Hp} {d p : Addr} {zs : List V} {old : List Addr} (k : Dk G d H) (c : Came H p zs H' old) (ho : ∀ a ∈ old, G a ≠ none) : ∃ G', Ex G G' ∧ G' p = some (.tup zs) ∧ Dk G' d H' := by
  rcases c with ⟨rfl, m, h⟩ | ⟨h, rfl⟩
  · refine ⟨G, Ex.refl G, ?_, k⟩
    cases e : G p with
    | none => exact absurd e (ho p m)
    | some o =>
      have := k.get e
      rw [h] at this
      exact this.symm
  · exact ⟨_, k.gex h, upd_same, k.made h⟩
section
variable {K : PySem.W.Frag} {σ : L2.St} {H : Hp} {te tl : TE} {g : TG} {tt : TT} {vs : List Nat} {ys : List V}
/-- over a tuple made on the way -/
theorem el_lcTN (hl : EvU tl σ H ys) (f : Nat → Bool) (v : Nat → V) (hz : ys.length ≤ 40000)
    (hs : ∀ i x H2, Ex H H2 → ys[i]? = some x → ∃ σ2, (∀ k : L2.St → Hp → Prop, k σ2 H2 → g x (wipe σ vs) H2 k) ∧ wipe σ2 vs = wipe σ vs ∧ EvT tt σ2 H2 (f i) ∧ (f i = true → Ev te σ2 H2 (v i))) :
    EvL (tLc (iTup K tl) g tt te vs) σ H (given ys.length f v) := fun H0 e Q q =>
  hl H0 e _ fun a H1 _ e1 h1 => ⟨a, rfl, ⟨_, SqT.of h1⟩, lcW (walk_tup (K := K) (a := a) (xs := ys)) f v hz (fun H2 e2 => SqT.of (e2 _ _ h1)) (fun i H1 x H2 y => by rw [y.1]; exact Ex.refl _)
    (fun i x H2 H3 hi e2 y => by
      obtain ⟨rfl, y2⟩ := y
      exact hs i x H3 ((e.trans e1).trans e2) y2) fun p H2 np e2 hp => q p H2 (fresh_back e1 np) (e1.trans e2) hp⟩
end
end Hr

set_option exponentiation.threshold 3000
/-! Values of any kind whose repr can be told. -/
namespace Hr
open PySem PySem.Spec PyProof.Rows L2 Evl
structure Val (d : PyData) (p n : Nat) : Prop where
  sh : d.showable = true
  leaf : d.leavesShort 1921 = true
  dep : d.depth ≤ p
  bulk : d.bulk ≤ n
  own : (valD d).natAbs < 2 ^ 300
  itm : ∀ x ∈ itemsD d, (valD x).natAbs < 2 ^ 300
structure ValL (ds : List PyData) (p n : Nat) : Prop where
  sh : PyData.showableAll ds = true
  leaf : PyData.leavesShortAll 1921 ds = true
  dep : PyData.depthAll ds ≤ p
  bulk : PyData.bulkAll ds ≤ n
  own : ∀ x ∈ ds, (valD x).natAbs < 2 ^ 300
section
variable {d e : PyData} {ds es : List PyData} {p q n m : Nat}
theorem Val.up (h : Val d p n) (hp : p ≤ q) (hn : n ≤ m) : Val d q m := ⟨h.sh, h.leaf, Nat.le_trans h.dep hp, Nat.le_trans h.bulk hn, h.own, h.itm⟩
theorem ValL.up (h : ValL ds p n) (hp : p ≤ q) (hn : n ≤ m) : ValL ds q m := ⟨h.sh, h.leaf, Nat.le_trans h.dep hp, Nat.le_trans h.bulk hn, h.own⟩
theorem ValL.nil : ValL [] 0 0 := ⟨rfl, rfl, Nat.le_refl 0, Nat.le_refl 0, fun x hx => by simp at hx⟩
theorem ValL.cons (h : Val d p n) (t : ValL ds p m) : ValL (d :: ds) p (n + 1 + m) := by
  refine ⟨?_, ?_, ?_, ?_, ?_⟩
  · simp only [PyData.showableAll, h.sh, t.sh, Bool.and_self]
  · simp only [PyData.leavesShortAll, h.leaf, t.leaf, Bool.and_self]
  · simp only [PyData.depthAll]
    exact Nat.max_le.mpr ⟨h.dep, t.dep⟩
  · simp only [PyData.bulkAll]
    have := h.bulk
    have := t.bulk
    omega
  · intro x hx
    rcases List.mem_cons.mp hx with rfl | hx
    · exact h.own
    · exact t.own x hx
theorem ValL.tup (h : ValL ds p n) : Val (.tuple ds) (p + 1) n := by
  refine ⟨?_, ?_, ?_, ?_, by show (0 : Int).natAbs < _; decide, h.own⟩
  · simpa only [PyData.showable] using h.sh
  · simpa only [PyData.leavesShort] using h.leaf
  · have := h.dep
    simp only [PyData.depth]
    omega
  · simpa only [PyData.bulk] using h.bulk
theorem ValL.lst (h : ValL ds p n) : Val (.list ds) (p + 1) n := by
  refine ⟨?_, ?_, ?_, ?_, by show (0 : Int).natAbs < _; decide, fun x hx => by cases hx⟩
  · simpa only [PyData.showable] using h.sh
  · simpa only [PyData.leavesShort] using h.leaf
  · have := h.dep
    simp only [PyData.depth]
    omega
  · simpa only [PyData.bulk] using h.bulk
theorem Val.int {i : Int} (h : i.natAbs < 2 ^ 300) : Val (.int i) 0 0 := by
  have hl : i.natAbs.log2 < 1920 := by
    have := PySem.Flt.log2_lt_of (by decide) h
    omega
  refine ⟨decide_eq_true hl, ?_, Nat.le_refl 0, Nat.le_refl 0, h, fun x hx => by cases hx⟩
  simp only [PyData.leavesShort, decide_eq_true_eq]
  exact int_text_len_1921 hl
theorem Val.bool (b : Bool) : Val (.bool b) 0 0 := ⟨rfl, rfl, Nat.le_refl 0, Nat.le_refl 0, by show (0 : Int).natAbs < _; decide, fun x hx => by cases hx⟩
theorem Val.none : Val .none 0 0 := ⟨rfl, rfl, Nat.le_refl 0, Nat.le_refl 0, by decide, fun x hx => by cases hx⟩
theorem Val.str {x : Str} (h : (x.cps.toList.all fun c => decide (c < 16 ^ 8)) = true) (hn : x.cps.size ≤ n) : Val (.str x) 0 n := ⟨rfl, by simpa only [PyData.leavesShort] using h, Nat.le_refl 0, by simpa only [PyData.bulk] using hn, by show (0 : Int).natAbs < _; decide, fun x hx => by cases hx⟩
theorem Val.dict1 {i : Int} (hi : i.natAbs < 2 ^ 300) (h : Val d p n) : Val (.dict [(.int i, d)]) (p + 1) (n + 2) := by
  have k := Val.int hi
  refine ⟨?_, ?_, ?_, ?_, by show (0 : Int).natAbs < _; decide, fun x hx => by cases hx⟩
  · have z : PyData.showable (.dict [(.int i, d)]) = (PyData.showable (.int i) && PyData.showable d && true) := by rfl
    rw [z, k.sh, h.sh]
    rfl
  · have z : PyData.leavesShort 1921 (.dict [(.int i, d)]) = (PyData.leavesShort 1921 (.int i) && PyData.leavesShort 1921 d && true) := by rfl
    rw [z, k.leaf, h.leaf]
    rfl
  · have := h.dep
    simp only [PyData.depth, PyData.depthKv]
    omega
  · have := h.bulk
    simp only [PyData.bulk, PyData.bulkKv]
    omega
theorem Val.dict2 {x : Str} {i : Int} (hx : Val (.str x) 0 m) (hi : i.natAbs < 2 ^ 300) (h : Val d p n) (he : Val e p 0) : Val (.dict [(.str x, d), (.int i, e)]) (p + 1) (m + n + 4) := by
  have k := Val.int hi
  refine ⟨?_, ?_, ?_, ?_, by show (0 : Int).natAbs < _; decide, fun x hx => by cases hx⟩
  · have z : PyData.showable (.dict [(.str x, d), (.int i, e)]) = (PyData.showable (.str x) && PyData.showable d && (PyData.showable (.int i) && PyData.showable e && true)) := by rfl
    rw [z, hx.sh, k.sh, h.sh, he.sh]
    rfl
  · have z := hx.leaf
    have z2 := k.leaf
    have z3 : PyData.leavesShort 1921 (.dict [(.str x, d), (.int i, e)]) = (PyData.leavesShort 1921 (.str x) && PyData.leavesShort 1921 d && (PyData.leavesShort 1921 (.int i) && PyData.leavesShort 1921 e && true)) := by rfl
    rw [z3, z, z2, h.leaf, he.leaf]
    rfl
  · have := h.dep
    have := he.dep
    simp only [PyData.depth, PyData.depthKv]
    omega
  · have h1 := hx.bulk
    have h2 := h.bulk
    have h3 := he.bulk
    simp only [PyData.bulk, PyData.bulkKv] at h1 ⊢
    omega
theorem ValL.ints : ∀ ns : List Int, (∀ x ∈ ns, x.natAbs < 2 ^ 300) → ValL (ns.map PyData.int) 0 ns.length
  | [], _ => ValL.nil
  | n :: ns, h => (ValL.cons (Val.int (h n List.mem_cons_self)) (ValL.ints ns fun x hx => h x (List.mem_cons_of_mem _ hx))).up (Nat.le_refl 0) (by rw [List.length_cons]; omega)
theorem ValL.app : ∀ {ds es : List PyData} {n m : Nat}, ValL ds p n → ValL es p m → ValL (ds ++ es) p (n + m)
  | [], es, n, m, _, h => h.up (Nat.le_refl p) (by omega)
  | d :: ds, es, n, m, a, b => by
    have sh := a.sh
    have lf := a.leaf
    have dp := a.dep
    have bk := a.bulk
    simp only [PyData.showableAll, Bool.and_eq_true] at sh
    simp only [PyData.leavesShortAll, Bool.and_eq_true] at lf
    simp only [PyData.depthAll, Nat.max_le] at dp
    simp only [PyData.bulkAll] at bk
    have t : ValL (ds ++ es) p (PyData.bulkAll ds + m) := ValL.app ⟨sh.2, lf.2, dp.2, Nat.le_refl _, fun x hx => a.own x (List.mem_cons_of_mem _ hx)⟩ b
    refine ⟨?_, ?_, ?_, ?_, ?_⟩
    · show PyData.showableAll (d :: (ds ++ es)) = true
      simp only [PyData.showableAll, sh.1, t.sh, Bool.and_self]
    · show PyData.leavesShortAll 1921 (d :: (ds ++ es)) = true
      simp only [PyData.leavesShortAll, lf.1, t.leaf, Bool.and_self]
    · show PyData.depthAll (d :: (ds ++ es)) ≤ p
      simp only [PyData.depthAll]
      exact Nat.max_le.mpr ⟨dp.1, t.dep⟩
    · show PyData.bulkAll (d :: (ds ++ es)) ≤ n + m
      have := t.bulk
      simp only [PyData.bulkAll]
      omega
    · intro x hx
      rcases List.mem_append.mp hx with h | h
      · exact a.own x h
      · exact b.own x h
theorem Val.len (h : Val d p n) (hn : n ≤ 8000) : d.shown.length ≤ sizeLine := by
  have h1 := PyData.shown_le_bulk 1921 (by decide) d h.leaf
  have h2 := h.bulk
  have h3 : sizeLine = 16777216 := by decide
  have h4 : (1921 + 2) * d.bulk ≤ 1923 * 8000 := Nat.mul_le_mul (Nat.le_refl _) (by omega)
  omega
variable {H : Hp} {a : Addr} {xs : List V} {Q : VK}
/-- repr of such a tuple -/
theorem r_reprX (ha : H a = some (.tup xs)) (hd : DxA H xs ds) (h : ValL ds p n) (hp : p ≤ 30) (hn : n ≤ 8000) (q : Q (.str (PyData.tuple ds).shown) H) : rReprX [.ref a] H Q :=
  ⟨a, xs, ds, rfl, ha, hd, h.sh, by have := h.tup.dep; omega, h.tup.len hn, q⟩
end
end Hr
namespace Hr
open PySem PySem.Spec PyProof.Rows L2 Evl LamX
/-- what G' has beyond G -/
def nw (G G' : Hp) : Hp := fun b => if (G b).isSome = true then none else G' b
section
variable {G G' G2 H : Hp} {d D : Addr} {o : HO}
theorem nw_in : Ex (nw G G') G' := fun b o h => by
  unfold nw at h
  split at h
  · cases h
  · exact h
theorem nw_at {b : Addr} (h : G b = none) (e : G' b = some o) : nw G G' b = some o := by
  unfold nw
  rw [h]
  exact e
theorem nw_up (e : Ex G' G2) : Ex (nw G G') (nw G G2) := fun b o h => by
  unfold nw at h ⊢
  split at h
  · cases h
  · rename_i z
    rw [if_neg z]
    exact e _ _ h
theorem nw_sub (e : ∀ b, (G b).isSome = true → (G' b).isSome = true) : Ex (nw G' G2) (nw G G2) := fun b o h => by
  unfold nw at h ⊢
  split at h
  · cases h
  · rename_i z
    rw [if_neg fun y => z (e b y)]
    exact h
theorem nw_ex (e : Ex G G') : Ex (nw G' G2) (nw G G2) := nw_sub fun b h => by
  obtain ⟨u, hu⟩ := Option.isSome_iff_exists.mp h
  rw [e b u hu]
  rfl
theorem nw_mut (h : (G D).isSome = true) : Ex (nw G G') (nw G (upd G' D o)) := fun b u e => by
  unfold nw at e ⊢
  split at e
  · cases e
  · rename_i z
    rw [if_neg z]
    have : b ≠ D := fun y => z (y ▸ h)
    rw [upd_ne this]
    exact e
theorem small_100 {n : Nat} (h : n ≤ 100) : n < sizeLine := Nat.lt_of_le_of_lt h (by decide)
/-- a list of drawn values -/
theorem lc_vals {n : Nat} {σ : L2.St} {te : TE} {g : TG} {vs : List Nat} {Q : VK} {p B : Nat} {R : PyData → Prop} (k : Dk G d H) (hn : n ≤ 100)
    (hs : ∀ (i : Nat) (H2 Gi : Hp), i < n → Dk Gi d H2 → Ex G Gi → ∃ σ2, (∀ k : L2.St → Hp → Prop, k σ2 H2 → g (.int (0 + (i : Int))) (wipe σ vs) H2 k) ∧ wipe σ2 vs = wipe σ vs ∧
      ∀ Q3 : VK, (∀ v pd Gj H', Ex Gi Gj → Dk Gj d H' → Dx (nw Gi Gj) v pd → Val pd p B → R pd → Q3 v H') → te σ2 H2 Q3)
    (q : ∀ D ys ds Gj H', Ex G Gj → Dk Gj d H' → G D = none → Gj D = some (.lst ys) → DxA (nw G Gj) ys ds → ValL ds p (n * (B + 1)) → ys.length = n → (∀ x ∈ ds, R x) → Q (.ref D) H') :
    tLc (fun _ H' R => R (Itr 0 n) H') g tYes te vs σ H Q := by
  intro D hD
  have hG : G D = none := k.free hD
  have sD : ((upd G D (.lst [])) D).isSome = true := by rw [upd_same]; rfl
  refine lc_it (walk_range (lo := 0) (n := n)) (fun i H2 => ∃ Gi ys ds, Gi D = some (.lst ys) ∧ Dk Gi d H2 ∧ Ex G Gi ∧ (∀ b, ((upd G D (.lst [])) b).isSome = true → (Gi b).isSome = true) ∧ DxA (nw (upd G D (.lst [])) Gi) ys ds ∧ ValL ds p (i * (B + 1)) ∧ ys.length = i ∧ ∀ x ∈ ds, R x)
    ⟨_, [], [], upd_same, k.made hD, Ex.new hG, fun b h => h, .nil, ValL.nil.up (Nat.zero_le _) (Nat.zero_le _), rfl, fun x hx => by simp at hx⟩ (fun _ _ _ _ => trivial) (fun i x H2 H3 hi inv y => ?_) (fun H2 inv => ?_)
  · obtain ⟨Gi, ys, ds, hd, kk, eG, sup, dA, vL, len, hR⟩ := inv
    obtain ⟨rfl, rfl⟩ := y
    obtain ⟨σ2, hk, hw, he⟩ := hs i _ Gi hi kk eG
    refine hk _ ⟨hw, ?_⟩
    show te σ2 _ _
    refine he _ fun v pd Gj H' e' k' dx vl vR => ⟨ys, k'.get (e' _ _ hd), small_100 (by omega), upd Gj D (.lst (ys ++ [v])), ys ++ [v], ds ++ [pd], upd_same, k'.set (e' _ _ hd), Ex.mut (eG.trans e') hG, fun b h => ?_, ?_, ?_, ?_, ?_⟩
    · by_cases hb : b = D
      · rw [hb, upd_same]
        rfl
      · rw [upd_ne hb]
        obtain ⟨u, hu⟩ := Option.isSome_iff_exists.mp (sup b h)
        rw [e' b u hu]
        rfl
    · exact ((dA.more (nw_up e')).app (.cons (dx.more (nw_sub sup)) .nil)).more (nw_mut sD)
    · have z := vL.app (ValL.cons vl (ValL.nil.up (Nat.zero_le p) (Nat.le_refl 0)))
      exact z.up (Nat.le_refl p) (by rw [Nat.succ_mul]; omega)
    · rw [List.length_append, len]
      rfl
    · intro x hx
      rcases List.mem_append.mp hx with h | h
      · exact hR x h
      · rw [List.mem_singleton.mp h]
        exact vR
  · obtain ⟨Gi, ys, ds, hd, kk, eG, sup, dA, vL, len, hR⟩ := inv
    exact q D ys ds Gi H2 eG kk hG hd (dA.more (nw_ex (Ex.new hG))) vL len hR
end
end Hr
namespace Hr
open PySem PySem.Spec PyProof.Rows L2 Evl LamX
/-- data that repr can tell, whatever its ints are -/
structure ShL (ds : List PyData) (p n : Nat) : Prop where
  sh : PyData.showableAll ds = true
  leaf : PyData.leavesShortAll 1921 ds = true
  dep : PyData.depthAll ds ≤ p
  bulk : PyData.bulkAll ds ≤ n
section
variable {d : PyData} {ds : List PyData} {p q n m : Nat}
theorem ShL.nil : ShL [] p 0 := ⟨rfl, rfl, Nat.zero_le _, Nat.le_refl 0⟩
theorem ShL.cons (h1 : d.showable = true) (h2 : d.leavesShort 1921 = true) (h3 : d.depth ≤ p) (h4 : d.bulk ≤ n) (t : ShL ds p m) : ShL (d :: ds) p (n + 1 + m) := by
  refine ⟨?_, ?_, ?_, ?_⟩
  · simp only [PyData.showableAll, h1, t.sh, Bool.and_self]
  · simp only [PyData.leavesShortAll, h2, t.leaf, Bool.and_self]
  · simp only [PyData.depthAll]
    exact Nat.max_le.mpr ⟨h3, t.dep⟩
  · simp only [PyData.bulkAll]
    have := t.bulk
    omega
theorem ShL.val (h : Val d p n) (t : ShL ds p m) : ShL (d :: ds) p (n + 1 + m) := ShL.cons h.sh h.leaf h.dep h.bulk t
theorem ShL.ints : ∀ ns : List Int, (∀ x ∈ ns, x.natAbs < 2 ^ 400) → ShL (ns.map PyData.int) 0 ns.length
  | [], _ => ShL.nil
  | n :: ns, h => by
    have hl : n.natAbs.log2 < 1920 := by
      have := PySem.Flt.log2_lt_of (by decide) (h n List.mem_cons_self)
      omega
    have ih := ShL.ints ns fun x hx => h x (List.mem_cons_of_mem _ hx)
    have z := ShL.cons (d := .int n) (p := 0) (n := 0) (decide_eq_true hl) (by simp only [PyData.leavesShort, decide_eq_true_eq]; exact int_text_len_1921 hl) (Nat.le_refl 0) (Nat.le_refl 0) ih
    exact ⟨z.sh, z.leaf, z.dep, by have := z.bulk; rw [List.length_cons]; simp only [List.map_cons] at this ⊢; omega⟩
theorem ShL.tup {es : List PyData} (h : ShL ds p n) (t : ShL es (p + 1) m) : ShL (.tuple ds :: es) (p + 1) (n + 1 + m) := by
  refine ShL.cons ?_ ?_ ?_ ?_ t
  · simpa only [PyData.showable] using h.sh
  · simpa only [PyData.leavesShort] using h.leaf
  · have := h.dep
    simp only [PyData.depth]
    omega
  · simpa only [PyData.bulk] using h.bulk
variable {H : Hp} {a : Addr} {xs : List V} {Q : VK}
theorem r_reprS (ha : H a = some (.tup xs)) (hd : DxA H xs ds) (h : ShL ds p n) (hp : p ≤ 30) (hn : n ≤ 8000) (q : Q (.str (PyData.tuple ds).shown) H) : rReprX [.ref a] H Q := by
  refine ⟨a, xs, ds, rfl, ha, hd, h.sh, ?_, ?_, q⟩
  · have := h.dep
    simp only [PyData.depth]
    omega
  · have h0 : (PyData.tuple ds).leavesShort 1921 = true := by simpa only [PyData.leavesShort] using h.leaf
    have h1 := PyData.shown_le_bulk 1921 (by decide) _ h0
    have h2 : (PyData.tuple ds).bulk ≤ n := by simpa only [PyData.bulk] using h.bulk
    have h3 : sizeLine = 16777216 := by decide
    have h4 : (1921 + 2) * (PyData.tuple ds).bulk ≤ 1923 * 8000 := Nat.mul_le_mul (Nat.le_refl _) (by omega)
    omega
end
end Hr

/-! Any value, tuples tracked or frozen. -/
namespace Hr
open PySem PySem.Spec PyProof.Rows L2 Evl LamX
theorem _root_.L2.Rd.exN {H H' : Hp} {a : Addr} {xs : List V} (r : Rd H a (.tup xs)) (e : ExtN H H') : Rd H' a (.tup xs) := by
  rcases r with h | ⟨o, h⟩
  · exact .inl (e _ _ h fun _ z => by cases z)
  · exact .inr ⟨o, e _ _ h fun _ z => by cases z⟩
theorem _root_.L2.Rd.ex {H H' : Hp} {a : Addr} {xs : List V} (r : Rd H a (.tup xs)) (e : Ex H H') : Rd H' a (.tup xs) := r.exN (.of e)
mutual
inductive Df (H : Hp) : V → PyData → Prop
  | non : Df H .non .none
  | bl (b : Bool) : Df H (.bl b) (.bool b)
  | int (i : Int) : Df H (.int i) (.int i)
  | str (x : Str) : Df H (.str x) (.str x)
  | lst {a : Addr} {xs : List V} {ds : List PyData} : H a = some (.lst xs) → DfA H xs ds → Df H (.ref a) (.list ds)
  | tup {a : Addr} {xs : List V} {ds : List PyData} : Rd H a (.tup xs) → DfA H xs ds → Df H (.ref a) (.tuple ds)
  | dct {a : Addr} {kvs : List (Key × V)} {es : List (PyData × PyData)} : H a = some (.dK kvs) → DfK H kvs es → Df H (.ref a) (.dict es)
inductive DfA (H : Hp) : List V → List PyData → Prop
  | nil : DfA H [] []
  | cons {v : V} {vs : List V} {d : PyData} {ds : List PyData} : Df H v d → DfA H vs ds → DfA H (v :: vs) (d :: ds)
inductive DfK (H : Hp) : List (Key × V) → List (PyData × PyData) → Prop
  | nil : DfK H [] []
  | cons {k : Key} {v : V} {kvs : List (Key × V)} {d : PyData} {es : List (PyData × PyData)} : Df H v d → DfK H kvs es → DfK H ((k, v) :: kvs) ((kyD k, d) :: es)
end
section
variable {H H' : Hp}
mutual
theorem Df.moreN (e : ExtN H H') : ∀ {v : V} {d : PyData}, Df H v d → Df H' v d
  | _, _, .non => .non
  | _, _, .bl b => .bl b
  | _, _, .int i => .int i
  | _, _, .str x => .str x
  | _, _, .lst h t => .lst (e _ _ h (fun _ z => by cases z)) (DfA.moreN e t)
  | _, _, .tup h t => .tup (h.exN e) (DfA.moreN e t)
  | _, _, .dct h t => .dct (e _ _ h (fun _ z => by cases z)) (DfK.moreN e t)
theorem DfA.moreN (e : ExtN H H') : ∀ {v : List V} {d : List PyData}, DfA H v d → DfA H' v d
  | _, _, .nil => .nil
  | _, _, .cons h t => .cons (Df.moreN e h) (DfA.moreN e t)
theorem DfK.moreN (e : ExtN H H') : ∀ {v : List (Key × V)} {d : List (PyData × PyData)}, DfK H v d → DfK H' v d
  | _, _, .nil => .nil
  | _, _, .cons h t => .cons (Df.moreN e h) (DfK.moreN e t)
end
theorem Df.more (e : Ex H H') {v : V} {d : PyData} (h : Df H v d) : Df H' v d := h.moreN (.of e)
theorem DfA.more (e : Ex H H') {v : List V} {d : List PyData} (h : DfA H v d) : DfA H' v d := h.moreN (.of e)
theorem DfA.ints : ∀ ns : List Int, DfA H (ns.map V.int) (ns.map PyData.int)
  | [] => .nil
  | n :: ns => .cons (.int n) (DfA.ints ns)
theorem DfA.len : ∀ {vs : List V} {ds : List PyData}, DfA H vs ds → vs.length = ds.length
  | _, _, .nil => rfl
  | _, _, .cons _ t => by rw [List.length_cons, List.length_cons, t.len]
mutual
theorem Df.of {H : Hp} : ∀ {v : V} {d : PyData}, Dx H v d → Df H v d
  | _, _, .non => .non
  | _, _, .bl b => .bl b
  | _, _, .int i => .int i
  | _, _, .str x => .str x
  | _, _, .lst h t => .lst h (DfA.of t)
  | _, _, .tup h t => .tup (.inl h) (DfA.of t)
  | _, _, .dct h t => .dct h (DfK.of t)
theorem DfA.of {H : Hp} : ∀ {v : List V} {d : List PyData}, DxA H v d → DfA H v d
  | _, _, .nil => .nil
  | _, _, .cons h t => .cons (Df.of h) (DfA.of t)
theorem DfK.of {H : Hp} : ∀ {v : List (Key × V)} {d : List (PyData × PyData)}, DxK H v d → DfK H v d
  | _, _, .nil => .nil
  | _, _, .cons h t => .cons (Df.of h) (DfK.of t)
end
end
section
variable {X : Cx} {pins : List (Addr × Obj)} {σ : L2.St} {H : Hp} {s : Shared}
/-- the keys of a dict are read -/
theorem keys_readF {P : Program} {w : World} {h : Heap} : ∀ {kvs : List (Key × V)} {vs : List (Key × Value)} {ents : List DictEntry} {es : List (PyData × PyData)}, DfK H kvs es → KV kvs vs → PySem.Pairs (mixKind P w) ents vs →
    ∃ as, ReadsAll h (ents.map (·.key)) (es.map (·.1)) as ∧ PyData.hasDictAll (es.map (·.1)) = false ∧ Vals (kvs.map (·.2)) (ents.map (·.val))
  | _, _, _, _, .nil, .nil, .nil => ⟨[], .nil, by simp [PyData.hasDictAll], .nil⟩
  | _, _, _, _, .cons (k := k) hd t, .cons r rs, .cons (e := ent) h1 h2 ps => by
    obtain ⟨as, q1, q2, q3⟩ := keys_readF (h := h) t rs ps
    obtain ⟨e1, e2⟩ := r
    have h1' : keyIs k ent.key = true := by
      rw [show k = _ from e1]
      exact h1
    have rk : ∃ as1, Reads h ent.key (kyD k) as1 ∧ (kyD k).hasDict = false := by
      rcases keyIs_shape h1' with ⟨i, tk, e3, e4⟩ | ⟨x, tk, e3, e4⟩
      · rw [e3, e4]
        exact ⟨_, .int i tk, by simp [kyD, PyData.hasDict]⟩
      · rw [e3, e4]
        exact ⟨_, .str x tk, by simp [kyD, PyData.hasDict]⟩
    obtain ⟨as1, k1, k2⟩ := rk
    refine ⟨as1 ++ as, .cons k1 q1, ?_, .cons ?_ q3⟩
    · simp only [List.map_cons, PyData.hasDictAll, k2, q2, Bool.or_self]
    · show L2.RelV _ ent.val
      rw [h2]
      exact e2
mutual
theorem Df.told (I : Inv X pins σ H s) : ∀ {v : V} {d : PyData} {u : Value}, Df H v d → RelV v u → d.showable = true → d.shown.length ≤ sizeLine → Told X.prog X.w s.heap u d
  | _, _, _, .non, r, hs, hz => by
    cases r
    exact told_flat .none hs rfl hz
  | _, _, _, .bl b, r, hs, hz => by
    cases r
    exact told_flat (.bool b) hs rfl hz
  | _, _, _, .int i, r, hs, hz => by
    obtain ⟨t, rfl⟩ := r
    exact told_flat (.int i t) hs rfl hz
  | _, _, _, .str x, r, hs, hz => by
    obtain ⟨t, rfl⟩ := r
    exact told_flat (.str x t) hs rfl hz
  | _, _, _, .lst (ds := ds) h t, r, hs, hz => by
    cases r
    obtain ⟨its, rv, ⟨o, n, ho, hc, hx, hd⟩, _⟩ := I.list (SqL.of h)
    have hz' : (listText (PyData.shownAll ds)).length ≤ sizeLine := by simpa only [PyData.shown] using hz
    obtain ⟨as, bs, q1, q2, q3⟩ := DfA.told I t rv (by simpa [PyData.showable] using hs) fun x hx => Nat.le_trans (listText_mem_le hx) hz'
    have rd := Reads.list ho hc hd (by simpa using q1)
    have na := not_mem_of_deeper rd (show PyData.depthAll ds < (PyData.list ds).depth by simp only [PyData.depth]; omega) q2
    refine ⟨_, _ :: bs, rd, ReadAtMost.cons rd (Nat.le_refl _) (fun b hb => let ⟨x, y, z, l⟩ := q2 b hb; ⟨x, y, z, by simp only [PyData.depth]; omega⟩), ?_⟩
    simp only [PyData.shown]
    cases its with
    | nil =>
      have e' : ds = [] := by
        have e0 := q3.length_eq
        cases ds with
        | nil => rfl
        | cons d ds => simp [PyData.shownAll] at e0
      subst e'
      simp only [PyData.shownAll, listText_nil, PyData.depth]
      exact ReprK.listEmpty ho hc hd
    | cons x l =>
      simp only [PyData.depth]
      exact ReprK.list ho hc hd na (by simpa using q3.length_eq) fun i y e => q3.item i y (by simpa using e)
  | _, _, _, .tup (ds := ds) h t, r, hs, hz => by
    cases r
    obtain ⟨its, rv, ⟨o, ho, hc, n, hd⟩, _⟩ := I.tuple (.inl h)
    have hz' : (tupleText (PyData.shownAll ds)).length ≤ sizeLine := by simpa only [PyData.shown] using hz
    obtain ⟨as, bs, q1, q2, q3⟩ := DfA.told I t rv (by simpa [PyData.showable] using hs) fun x hx => Nat.le_trans (tupleText_mem_le hx) hz'
    have rd := Reads.tuple ho hc hd (by simpa using q1)
    have na := not_mem_of_deeper rd (show PyData.depthAll ds < (PyData.tuple ds).depth by simp only [PyData.depth]; omega) q2
    refine ⟨_, _ :: bs, rd, ReadAtMost.cons rd (Nat.le_refl _) (fun b hb => let ⟨x, y, z, l⟩ := q2 b hb; ⟨x, y, z, by simp only [PyData.depth]; omega⟩), ?_⟩
    simp only [PyData.shown, PyData.depth]
    exact ReprK.tuple ho hc hd na (by simpa using q3)
  | _, _, _, .dct (es := kds) h t, r, hs, hz => by
    cases r
    obtain ⟨_, sm, vs, kv, o, es, ep, ho, hx, hd, _, ps, _⟩ := dk_of I.hok h
    have hz' : (dictText (PyData.shownKv kds)).length ≤ sizeLine := by simpa only [PyData.shown] using hz
    obtain ⟨s1, s2⟩ := PyData.showableKv_split kds (by simpa [PyData.showable] using hs)
    obtain ⟨a1, k1, k2, k3⟩ := keys_readF (h := s.heap) t kv ps
    obtain ⟨b1, m1, r1⟩ := ReprAllK.of_readsAll (prog := X.prog) (w := X.w) k1 s1 (fun z => by rw [k2] at z; cases z) fun x hx => by
      obtain ⟨p, hp, hl⟩ := PyData.shownKv_key_le kds x hx
      exact Nat.le_trans hl (Nat.le_trans (dictText_mem_le hp) hz')
    obtain ⟨a2, b2, q1, m2, r2⟩ := DfK.told I t k3 s2 fun x hx => by
      obtain ⟨p, hp, hl⟩ := PyData.shownKv_val_le kds x hx
      exact Nat.le_trans hl (Nat.le_trans (dictText_mem_le hp) hz')
    have rd := Reads.dict ho hx.1 hd k1 q1
    have mm : ReadAtMost s.heap (PyData.depthKv kds) (b1 ++ b2) := (m1.mono (PyData.depthAll_keys_le kds)).append (m2.mono (PyData.depthAll_vals_le kds))
    have na := not_mem_of_deeper rd (show PyData.depthKv kds < (PyData.dict kds).depth by simp only [PyData.depth]; omega) mm
    refine ⟨_, _ :: (b1 ++ b2), rd, ReadAtMost.cons rd (Nat.le_refl _) (fun b hb => let ⟨x, y, z, l⟩ := mm b hb; ⟨x, y, z, by simp only [PyData.depth]; omega⟩), ?_⟩
    simp only [PyData.shown, PyData.depth, PyData.shownKv_eq]
    refine ReprK.dict ho hx.1 hd sm na (ReprEntriesK.of_two es.toList _ _ (r1.more_le (fun b z => List.mem_append_left _ z) ?_) (r2.more_le (fun b z => List.mem_append_right _ z) ?_))
    · exact PyData.depthAll_keys_le kds
    · exact PyData.depthAll_vals_le kds
theorem DfA.told (I : Inv X pins σ H s) : ∀ {vs : List V} {ds : List PyData} {us : List Value}, DfA H vs ds → Vals vs us → PyData.showableAll ds = true → (∀ t ∈ PyData.shownAll ds, t.length ≤ sizeLine) → ToldA X.prog X.w s.heap us ds
  | _, _, _, .nil, r, _, _ => by
    cases r
    exact told_nil
  | _, _, _, .cons h t, r, hs, hz => by
    cases r with
    | cons r rs =>
      simp only [PyData.showableAll, Bool.and_eq_true] at hs
      simp only [PyData.shownAll] at hz
      exact told_cons (Df.told I h r hs.1 (hz _ List.mem_cons_self)) (DfA.told I t rs hs.2 fun x hx => hz x (List.mem_cons_of_mem _ hx))
theorem DfK.told (I : Inv X pins σ H s) : ∀ {kvs : List (Key × V)} {es : List (PyData × PyData)} {us : List Value}, DfK H kvs es → Vals (kvs.map (·.2)) us → PyData.showableAll (es.map (·.2)) = true → (∀ t ∈ PyData.shownAll (es.map (·.2)), t.length ≤ sizeLine) →
    ToldA X.prog X.w s.heap us (es.map (·.2))
  | _, _, _, .nil, r, _, _ => by
    cases r
    exact told_nil
  | _, _, _, .cons h t, r, hs, hz => by
    cases r with
    | cons r rs =>
      simp only [List.map_cons, PyData.showableAll, Bool.and_eq_true] at hs
      simp only [List.map_cons, PyData.shownAll] at hz
      exact told_cons (Df.told I h r hs.1 (hz _ List.mem_cons_self)) (DfK.told I t rs hs.2 fun x hx => hz x (List.mem_cons_of_mem _ hx))
end
def rReprF : List V → Hp → VK → Prop := fun vs H Q => ∃ (a : Addr) (xs : List V) (ds : List PyData), vs = [.ref a] ∧ Rd H a (.tup xs) ∧ DfA H xs ds ∧ PyData.showableAll ds = true ∧ (PyData.tuple ds).depth ≤ 40 ∧ (PyData.tuple ds).shown.length ≤ sizeLine ∧ Q (.str (PyData.tuple ds).shown) H
theorem cr_reprF (gg : X.A.guards = some []) (hu : X.A.units + 64 < cLine) : CallR X (.builtin "repr") rReprF := by
  intro pins s σ H vs us Q I r h
  obtain ⟨a, xs, ds, rfl, ha, hd, hs, hdep, hz, q⟩ := h
  obtain ⟨u, rfl, r1⟩ := vals1 r
  cases r1
  obtain ⟨its, rv, ⟨o, ho, hc, n, hdt⟩, _⟩ := I.tuple (.inl ha)
  have hz' : (tupleText (PyData.shownAll ds)).length ≤ sizeLine := by simpa only [PyData.shown] using hz
  obtain ⟨as, bs, q1, q2, q3⟩ := DfA.told I hd rv hs fun x hx => Nat.le_trans (tupleText_mem_le hx) hz'
  have rd := Reads.tuple ho hc hdt (by simpa using q1)
  have na := not_mem_of_deeper rd (show PyData.depthAll ds < (PyData.tuple ds).depth by simp only [PyData.depth]; omega) q2
  have hdep' : PyData.depthAll ds + 1 ≤ 40 := by simpa only [PyData.depth] using hdep
  have e : (PyData.tuple ds).shown = tupleText (PyData.shownAll ds) := by simp only [PyData.shown]
  rw [e] at q
  refine call_repr_slot (T := "tuple") (by omega) ⟨o, ho, hc⟩ F.slot_tuple_repr ?_
  exact call_tuple_reprK (h₀ := s.heap) ho hc hdt na (by simpa using q3) (A := X.A.in1) gg (fun b _ => Clear.nil b) (by show X.A.units + 1 + (PyData.depthAll ds + 1) < cLine; omega) (fun _ _ z => z)
    (fun h' t tk hk => ⟨_, _, rfl, .str _, H, I.kept (t' := tk) hk, ⟨t, rfl⟩, q⟩) hz'
end
end Hr

/-! repr of any value: None, bools, ints, texts, lists without dicts, tuples. -/
namespace Hr
open PySem PySem.Spec PyProof.Rows L2 Evl LamX
mutual
theorem dxDp {K : PySem.W.Frag} {H : Hp} : ∀ {v : V} {d : PyData}, Df H v d → d.hasDict = false → Dp K H v d
  | _, _, .non, _ => .non
  | _, _, .bl b, _ => .bl b
  | _, _, .int i, _ => .int i
  | _, _, .str x, _ => .str x
  | _, _, .lst h t, z => .lst (SqL.of h) (dxADp t (by simpa only [PyData.hasDict] using z))
  | _, _, .tup h t, z => .tup (.inl h) (dxADp t (by simpa only [PyData.hasDict] using z))
  | _, _, .dct h t, z => by simp [PyData.hasDict] at z
theorem dxADp {K : PySem.W.Frag} {H : Hp} : ∀ {v : List V} {d : List PyData}, DfA H v d → PyData.hasDictAll d = false → DpAll K H v d
  | _, _, .nil, _ => .nil
  | _, _, .cons h t, z => by
    simp only [PyData.hasDictAll, Bool.or_eq_false_iff] at z
    exact .cons (dxDp h z.1) (dxADp t z.2)
end
/-- no dict, or a tuple -/
def TopD (d : PyData) : Prop := d.hasDict = false ∨ ∃ ds, d = .tuple ds
def rReprY : List V → Hp → VK → Prop := fun vs H Q => ∃ (v : V) (d : PyData), vs = [v] ∧ Df H v d ∧ TopD d ∧ d.showable = true ∧ d.depth ≤ 40 ∧ d.shown.length ≤ sizeLine ∧ Q (.str d.shown) H
section
variable {X : Cx}
theorem cr_reprY (gg : X.A.guards = some []) (hu : X.A.units + 64 < cLine) : CallR X (.builtin "repr") rReprY := by
  intro pins s σ H vs us Q I r h
  obtain ⟨v, d, rfl, hd, ht, hs, hdep, hz, q⟩ := h
  have tupC : ∀ ds, d = .tuple ds → wpAny (model X.prog X.w) X.A (call (.builtin "repr") us) _ _ s := fun ds e => by
    subst e
    cases hd with
    | tup ha hA => exact cr_reprF gg hu pins s σ H _ us Q I r ⟨_, _, ds, rfl, ha, hA, by simpa [PyData.showable] using hs, hdep, hz, q⟩
  rcases ht with ht | ⟨ds, e⟩
  · cases hd with
    | non =>
      obtain ⟨u, rfl, r1⟩ := vals1 r
      cases r1
      exact PySem.P.repr_of_none ⟨.str _, H, I.tok _, ⟨_, rfl⟩, q⟩
    | bl b =>
      obtain ⟨u, rfl, r1⟩ := vals1 r
      cases r1
      refine PySem.P.repr_of_bool ⟨.str _, H, I.tok _, ⟨_, rfl⟩, ?_⟩
      cases b <;> exact q
    | int i =>
      obtain ⟨u, rfl, t, rfl⟩ := vals1 r
      exact PySem.P.repr_of_int (by simpa [PyData.showable] using hs) ⟨.str _, H, I.tok _, ⟨_, rfl⟩, q⟩
    | str x =>
      obtain ⟨u, rfl, t, rfl⟩ := vals1 r
      exact PySem.P.repr_of_str (hsz := by simpa only [PyData.shown] using hz) ⟨.str _, H, I.tok _, ⟨_, rfl⟩, by simpa only [PyData.shown] using q⟩
    | lst ha hA => exact cr_repr gg hu pins s σ H _ us Q I r ⟨_, _, rfl, dxDp (.lst ha hA) ht, hs, ht, hdep, hz, q⟩
    | tup ha hA => exact tupC _ rfl
    | dct ha hA => simp [PyData.hasDict] at ht
  · exact tupC ds e
end
section
variable {H : Hp} {v : V} {d : PyData} {p n : Nat} {Q : VK}
theorem r_reprYF (hd : Df H v d) (ht : TopD d) (f : Fine d 8000) (q : Q (.str d.shown) H) : rReprY [v] H Q := ⟨v, d, rfl, hd, ht, f.show1, Nat.le_trans f.dep (by decide), f.len (Nat.le_refl _), q⟩
theorem r_reprY (hd : Df H v d) (ht : TopD d) (h : Val d p n) (hp : p ≤ 30) (hn : n ≤ 8000) (q : Q (.str d.shown) H) : rReprY [v] H Q := by
  refine ⟨v, d, rfl, hd, ht, h.sh, Nat.le_trans h.dep (by omega), ?_, q⟩
  have h1 := PyData.shown_le_bulk 1921 (by decide) d h.leaf
  have h2 := h.bulk
  have h3 : sizeLine = 16777216 := by decide
  have h4 : (1921 + 2) * d.bulk ≤ 1923 * 8000 := Nat.mul_le_mul (Nat.le_refl _) (by omega)
  omega
end
section
variable {X : Cx}
/-- t.index(k), t of ints -/
def rIdxT : V → List V → Hp → VK → Prop := fun x vs H Q => ∃ (a : Addr) (ns : List Int) (k : Int), x = .ref a ∧ vs = [.int k] ∧ Rd H a (.tup (ns.map V.int)) ∧ k ∈ ns ∧ Q (.int (ns.idxOf k : Nat)) H
theorem mt_tupIdx : MtR X "tuple.index" rIdxT := by
  intro pins s σ H x xs v us Q I rx rs h
  obtain ⟨p, ns, k, rfl, rfl, hq, hk, q⟩ := h
  cases rx
  obtain ⟨u, rfl, t, rfl⟩ := vals1 rs
  obtain ⟨its, r, pl, hz⟩ := I.tuple (.inl hq)
  obtain ⟨o, ho, hc, n, hd⟩ := pl
  exact PySem.SeqAt.tuple_index_ints ⟨o, ho, hc, n, hd⟩ (intsAre_of r) hk ⟨.int _, H, I.tok _, ⟨_, rfl⟩, q⟩
end
end Hr

/-! t + u of tuples, either of them may be empty. -/
namespace Hr
open PySem PySem.Spec PyProof.Rows L2 Evl PySem.SeqAt PySem.MeetsSeq PySem.MeetsSeq2 PySem.MeetsSeq3
def rCatA (K : PySem.W.Frag) : R2 := fun x y H Q => ∃ a b xs ys, x = .ref a ∧ y = .ref b ∧ SqT K H a xs ∧ SqT K H b ys ∧ xs.length + ys.length ≤ sizeLine ∧
  (xs = [] → Q (.ref b) H) ∧ (xs ≠ [] → ys = [] → Q (.ref a) H) ∧ (xs ≠ [] → ys ≠ [] → ∀ p, H p = none → Q (.ref p) (upd H p (.tup (xs ++ ys))))
theorem op_catA {X : Cx} {K : PySem.W.Frag} (hK : X.K = K := by rfl) : OpR X (binaryOp .Add) (rCatA K) := by
  subst hK
  intro pins s σ H x y v u Q I rx ry h
  obtain ⟨a, b, xs, ys, rfl, rfl, ha, hb, hz, q0, q1, q2⟩ := h
  by_cases hx : xs = []
  · cases rx
    cases ry
    obtain ⟨its, r1, p1, _⟩ := I.tuple ha
    obtain ⟨its2, r2, p2, _⟩ := I.tuple hb
    obtain ⟨⟨cls, dd, data, sl⟩, ho, hc, n, hd⟩ := id p1
    obtain ⟨⟨cls2, dd2, data2, sl2⟩, ho2, hc2, n2, hd2⟩ := id p2
    simp only at hc hd hc2 hd2
    subst hc hd hc2 hd2
    have he : its = [] := r1.nil_iff.mpr hx
    exact concat_meets ⟨_, ho, rfl⟩ ⟨_, ho2, rfl⟩ noFill_tuple_add seq_tuple_add PySem.F.slot_tuple_add PySem.F.entry_tuple_add (PySem.F.args_tuple_add_2 _ _)
      (tuple_addW0 a b its.toArray its2.toArray n n2 dd dd2 sl sl2 (by simp [he])) ⟨ho, ho2, ⟨.ref b, H, I, rfl, q0 hx⟩⟩
  · exact op_catT pins s σ H _ _ v u Q I rx ry ⟨a, b, xs, ys, rfl, rfl, ha, hb, hx, hz, q1 hx, q2 hx⟩
/-- what comes of it, by a tuple at p -/
theorem catA_tup {K : PySem.W.Frag} {H : Hp} {a b : Addr} {xs ys : List V} {Q : VK} (ha : H a = some (.tup xs)) (hb : H b = some (.tup ys)) (hz : xs.length + ys.length ≤ sizeLine)
    (q : ∀ p H2, Ex H H2 → H2 p = some (.tup (xs ++ ys)) → Q (.ref p) H2) : rCatA K (.ref a) (.ref b) H Q := by
  refine ⟨a, b, xs, ys, rfl, rfl, SqT.of ha, SqT.of hb, hz, fun h => q b H (Ex.refl H) (by rw [h]; exact hb), fun _ h => q a H (Ex.refl H) (by rw [h, List.append_nil]; exact ha), fun _ _ p np => q p _ (Ex.new np) upd_same⟩
end Hr

/-! What is evaluated beside a deck and tables; small values. -/
namespace Hr
open PySem PySem.Spec PyProof.Rows L2 Evl LamX
section
variable {T : List (Addr × Str)} {d : Addr} {G G' H H' : Hp} {σ : L2.St} {K : PySem.W.Frag}
/-- p holds the tuple zs at H', that is H, or H with p new -/
def CameR (H : Hp) (p : Addr) (zs : List V) (H' : Hp) (old : List Addr) : Prop := (H' = H ∧ p ∈ old ∧ Rd H p (.tup zs)) ∨ (H p = none ∧ H' = upd H p (.tup zs))
def rCatR : R2 := fun x y H Q => ∃ a b xs ys, x = .ref a ∧ y = .ref b ∧ Rd H a (.tup xs) ∧ Rd H b (.tup ys) ∧ xs.length + ys.length ≤ sizeLine ∧ ∀ p H', CameR H p (xs ++ ys) H' [a, b] → Q (.ref p) H'
theorem op_catR {X : Cx} : OpR X (binaryOp .Add) rCatR := by
  intro pins s σ H x y v u Q I rx ry h
  obtain ⟨a, b, xs, ys, ex, ey, ha, hb, hz, q⟩ := h
  refine L2.op_catA pins s σ H x y v u Q I rx ry ⟨a, b, xs, ys, ex, ey, .inl ha, .inl hb, hz, fun e => ?_, fun _ e => ?_, fun _ _ p np => ?_⟩
  · refine q b H (.inl ⟨rfl, by simp, ?_⟩)
    rw [e]
    exact hb
  · refine q a H (.inl ⟨rfl, by simp, ?_⟩)
    rw [e, List.append_nil]
    exact ha
  · exact q p _ (.inr ⟨np, rfl⟩)
def rSlR : V → Option Int → Option Int → Hp → VK → Prop := fun x lo hi H Q => ∃ a xs, x = .ref a ∧ Rd H a (.tup xs) ∧ ∀ p H', CameR H p (cutV xs lo hi) H' [a] → Q (.ref p) H'
theorem sl_tupR {X : Cx} : SlR X rSlR := by
  intro pins s σ H x v vl vu lo hi sl Q I rx hs pl pu h
  obtain ⟨a, xs, ex, ha, q⟩ := h
  refine sl_tupA pins s σ H x v vl vu lo hi sl Q I rx hs pl pu ⟨a, xs, ex, .inl ha, fun w => ?_, fun _ p np => q p _ (.inr ⟨np, rfl⟩)⟩
  refine q a H (.inl ⟨rfl, by simp, ?_⟩)
  have e : cutV xs lo hi = xs := by
    unfold cutV
    rw [w.1, w.2, List.drop_zero, Nat.sub_zero, List.take_length]
  rw [e]
  exact ha
theorem DkT.getR (k : DkT T G d H) {b : Addr} {xs : List V} (h : Rd G b (.tup xs)) : Rd H b (.tup xs) := h.ex k.k.ex
theorem DkT.cameR {p : Addr} {zs : List V} {old : List Addr} (k : DkT T G d H) (c : CameR H p zs H' old) (ho : ∀ a ∈ old, G a ≠ none) : ∃ G', Ex G G' ∧ Rd G' p (.tup zs) ∧ DkT T G' d H' := by
  rcases c with ⟨rfl, m, h⟩ | ⟨h, rfl⟩
  · refine ⟨G, Ex.refl G, ?_, k⟩
    cases e : G p with
    | none => exact absurd e (ho p m)
    | some o =>
      have z := k.get e
      rcases h with h | ⟨o2, h⟩
      · rw [h] at z
        exact .inl (by rw [e, z])
      · rw [h] at z
        exact .inr ⟨o2, by rw [e, z]⟩
  · exact ⟨_, k.gex h, .inl upd_same, k.made h⟩
theorem Rd.some {G : Hp} {a : Addr} {xs : List V} (h : Rd G a (.tup xs)) : G a ≠ none := by
  rcases h with h | ⟨o, h⟩ <;> rw [h] <;> exact Option.some_ne_none _
theorem DkT.came {p : Addr} {zs : List V} {old : List Addr} (k : DkT T G d H) (c : Came H p zs H' old) (ho : ∀ a ∈ old, G a ≠ none) : ∃ G', Ex G G' ∧ G' p = some (.tup zs) ∧ DkT T G' d H' := by
  rcases c with ⟨rfl, m, h⟩ | ⟨h, rfl⟩
  · refine ⟨G, Ex.refl G, ?_, k⟩
    cases e : G p with
    | none => exact absurd e (ho p m)
    | some o =>
      have := k.get e
      rw [h] at this
      exact this.symm
  · exact ⟨_, k.gex h, upd_same, k.made h⟩
/-- small values -/
def OKI (G : Hp) (x : V) : Prop := ∃ pd, Df G x pd ∧ Val pd 2 12
def TupV (k : Nat) (G : Hp) (v : V) : Prop := ∃ p xs, v = .ref p ∧ Rd G p (.tup xs) ∧ xs.length ≤ k ∧ ∀ x ∈ xs, OKI G x
def OKV (G : Hp) (v : V) : Prop := ∃ pd, Df G v pd ∧ Val pd 3 400 ∧ (itemsD pd).length ≤ 40 ∧ TopD pd
theorem OKI.more {x : V} (h : OKI G x) (e : Ex G G') : OKI G' x := let ⟨pd, a, b⟩ := h; ⟨pd, a.more e, b⟩
theorem TupV.more {k : Nat} {v : V} (h : TupV k G v) (e : Ex G G') : TupV k G' v := let ⟨p, xs, a, b, c, f⟩ := h; ⟨p, xs, a, b.ex e, c, fun x hx => (f x hx).more e⟩
theorem OKV.more {v : V} (h : OKV G v) (e : Ex G G') : OKV G' v := let ⟨pd, a, b⟩ := h; ⟨pd, a.more e, b⟩
theorem OKI.int {i : Int} (h : i.natAbs < 2 ^ 300) : OKI G (.int i) := ⟨.int i, .int i, (Val.int h).up (by decide) (by decide)⟩
theorem OKI.bl (b : Bool) : OKI G (.bl b) := ⟨.bool b, .bl b, (Val.bool b).up (by decide) (by decide)⟩
theorem OKI.non : OKI G .non := ⟨.none, .non, Val.none.up (by decide) (by decide)⟩
theorem items_ok : ∀ {xs : List V}, (∀ x ∈ xs, OKI G x) → ∃ ds, DfA G xs ds ∧ ValL ds 2 (13 * xs.length) ∧ ds.length = xs.length
  | [], _ => ⟨[], .nil, ValL.nil.up (by decide) (by decide), rfl⟩
  | x :: xs, h => by
    obtain ⟨ds, h1, h2, h3⟩ := items_ok fun y hy => h y (List.mem_cons_of_mem _ hy)
    obtain ⟨pd, p1, p2⟩ := h x List.mem_cons_self
    exact ⟨pd :: ds, .cons p1 h1, (ValL.cons p2 h2).up (Nat.le_refl _) (by rw [List.length_cons]; omega), by rw [List.length_cons, List.length_cons, h3]⟩
theorem TupV.ok {k : Nat} {v : V} (h : TupV k G v) (hk : k ≤ 30) : OKV G v := by
  obtain ⟨p, xs, rfl, a, b, c⟩ := h
  obtain ⟨ds, h1, h2, h3⟩ := items_ok c
  exact ⟨.tuple ds, .tup a h1, h2.tup.up (by decide) (by omega), by show ds.length ≤ 40; omega, .inr ⟨ds, rfl⟩⟩
theorem OKI.ok {x : V} (h : OKI G x) (hi : ∀ pd, Df G x pd → (itemsD pd).length ≤ 40 ∧ TopD pd) : OKV G x := by
  obtain ⟨pd, a, b⟩ := h
  exact ⟨pd, a, b.up (by decide) (by decide), hi pd a⟩
/-- evaluated beside a deck, something with R comes -/
def EvD (T : List (Addr × Str)) (d : Addr) (t : TE) (σ : L2.St) (G H : Hp) (R : Hp → V → Prop) : Prop := ∀ Q : VK, (∀ v G' H', Ex G G' → DkT T G' d H' → R G' v → Q v H') → t σ H Q
def EvDs (T : List (Addr × Str)) (d : Addr) (t : TA) (σ : L2.St) (G H : Hp) (R : Hp → V → Prop) (k : Nat) : Prop := ∀ Q : List V → Hp → Prop, (∀ vs G' H', Ex G G' → DkT T G' d H' → (∀ v ∈ vs, R G' v) → vs.length = k → Q vs H') → t σ H Q
/-- a part of a slice: an int, the heap as before -/
def EvO (t : TO) (σ : L2.St) (H : Hp) : Prop := ∀ Q : Option Int → Hp → Prop, (∀ o, Q o H) → t σ H Q
variable {R R2 : Hp → V → Prop} {t t1 t2 : TE} {ts : TA} {k m : Nat}
theorem EvD.mono (h : EvD T d t σ G H R) (f : ∀ G' v, Ex G G' → R G' v → R2 G' v) : EvD T d t σ G H R2 := fun Q q => h Q fun v G' H' e D r => q v G' H' e D (f G' v e r)
theorem evd_c {v : V} (D : DkT T G d H) (h : R G v) : EvD T d (tC v) σ G H R := fun Q q => q v G H (Ex.refl _) D h
theorem evd_var {i : Nat} {v : V} (D : DkT T G d H) (hi : σ[i]? = some (some v)) (h : R G v) : EvD T d (tVar i) σ G H R := fun Q q => ⟨v, hi, q v G H (Ex.refl _) D h⟩
theorem cut_mem {xs : List V} {lo hi : Option Int} : (cutV xs lo hi).length ≤ xs.length ∧ ∀ x ∈ cutV xs lo hi, x ∈ xs := by
  unfold cutV
  refine ⟨?_, fun x hx => List.mem_of_mem_drop (List.mem_of_mem_take hx)⟩
  rw [List.length_take, List.length_drop]
  omega
theorem evd_slice {tl th : TO} (h : EvD T d t σ G H (TupV k)) (hl : ∀ H', EvO tl σ H') (hh : ∀ H', EvO th σ H') : EvD T d (tSl rSlR t tl th) σ G H (TupV k) := fun Q q =>
  h _ fun v G1 H1 e1 D1 ⟨p, xs, ev, hp, hx, ho⟩ => hl H1 _ fun o => hh H1 _ fun u => ⟨p, xs, ev, D1.getR hp, fun r H2 c => by
    obtain ⟨G2, e2, h2, D2⟩ := D1.cameR c fun a ha => by rw [List.mem_singleton.mp ha]; exact Rd.some hp
    exact q _ G2 H2 (e1.trans e2) D2 ⟨r, _, rfl, h2, Nat.le_trans cut_mem.1 hx, fun x hx => (ho x (cut_mem.2 x hx)).more e2⟩⟩
theorem evd_cat (h1 : EvD T d t1 σ G H (TupV k)) (h2 : ∀ G1 H1, Ex G G1 → DkT T G1 d H1 → EvD T d t2 σ G1 H1 (TupV m)) (hk : k + m ≤ 1000) : EvD T d (tOp rCatR t1 t2) σ G H (TupV (k + m)) := fun Q q =>
  h1 _ fun v G1 H1 e1 D1 tv => h2 G1 H1 e1 D1 _ fun v2 G2 H2 e2 D2 ⟨b, ys, ev2, hb, hy, oy⟩ => by
    obtain ⟨a, xs, rfl, ha, hx, ox⟩ := tv.more e2
    subst ev2
    refine ⟨a, b, xs, ys, rfl, rfl, D2.getR ha, D2.getR hb, Nat.le_trans (show xs.length + ys.length ≤ 1000 by omega) (by decide), fun r H3 c => ?_⟩
    obtain ⟨G3, e3, h3, D3⟩ := D2.cameR c fun z hz => by
      simp only [List.mem_cons, List.not_mem_nil, or_false] at hz
      rcases hz with rfl | rfl
      · exact Rd.some ha
      · exact Rd.some hb
    refine q _ G3 H3 ((e1.trans e2).trans e3) D3 ⟨r, _, rfl, h3, by rw [List.length_append]; omega, fun x hx => ?_⟩
    rcases List.mem_append.mp hx with z | z
    · exact (ox x z).more e3
    · exact (oy x z).more e3
theorem evd_tup1 (h : EvD T d t σ G H OKI) : EvD T d (tTup (tCons t tNil)) σ G H (TupV 1) := fun Q q =>
  h _ fun v G1 H1 e1 D1 o => ⟨by show 1 ≤ sizeLine; decide, fun p np => q _ _ _ (e1.trans (D1.gex np)) (D1.made np) ⟨p, [v], rfl, .inl upd_same, Nat.le_refl 1, fun x hx => by
    rw [List.mem_singleton.mp hx]
    exact o.more (D1.gex np)⟩⟩
theorem evd_rev (hK : K = K) (h : EvD T d t σ G H (TupV k)) : EvD T d (tRevT K t) σ G H (TupV k) := fun Q q =>
  h _ fun v G1 H1 e1 D1 ⟨p, xs, ev, hp, hx, ho⟩ => ⟨p, xs, ev, .inl (D1.getR hp), fun r nr => q _ _ _ (e1.trans (D1.gex nr)) (D1.made nr) ⟨r, _, rfl, .inl upd_same, by rw [List.length_reverse]; exact hx, fun x hx => (ho x (List.mem_reverse.mp hx)).more (D1.gex nr)⟩⟩
theorem evds_nil (D : DkT T G d H) : EvDs T d tNil σ G H R 0 := fun Q q => q [] G H (Ex.refl _) D (fun v hv => by simp at hv) rfl
theorem evds_cons (mono : ∀ (G G' : Hp) (v : V), R G v → Ex G G' → R G' v) (h : EvD T d t σ G H R) (hs : ∀ G1 H1, Ex G G1 → DkT T G1 d H1 → EvDs T d ts σ G1 H1 R k) : EvDs T d (tCons t ts) σ G H R (k + 1) := fun Q q =>
  h _ fun v G1 H1 e1 D1 r => hs G1 H1 e1 D1 _ fun vs G2 H2 e2 D2 rs hl => q _ G2 H2 (e1.trans e2) D2 (fun x hx => by
    rcases List.mem_cons.mp hx with rfl | hx
    · exact mono _ _ _ r e2
    · exact rs x hx) (by rw [List.length_cons, hl])
/-- a list of such values -/
def LstV (R : Hp → V → Prop) (k : Nat) (G : Hp) (v : V) : Prop := ∃ p vs, v = .ref p ∧ G p = some (.lst vs) ∧ vs.length = k ∧ ∀ x ∈ vs, R G x
theorem LstV.more (mono : ∀ (G G' : Hp) (v : V), R G v → Ex G G' → R G' v) {v : V} (h : LstV R k G v) (e : Ex G G') : LstV R k G' v := let ⟨p, xs, a, b, c, f⟩ := h; ⟨p, xs, a, e _ _ b, c, fun x hx => mono _ _ _ (f x hx) e⟩
theorem evd_lst (mono : ∀ (G G' : Hp) (v : V), R G v → Ex G G' → R G' v) (h : EvDs T d ts σ G H R k) (hk : k ≤ 1000) : EvD T d (tLst ts) σ G H (LstV R k) := fun Q q =>
  h _ fun vs G1 H1 e1 D1 rs hl => ⟨Nat.le_trans (show vs.length ≤ 1000 by omega) (by decide), fun p np => q _ _ _ (e1.trans (D1.gex np)) (D1.made np) ⟨p, vs, rfl, upd_same, hl, fun x hx => mono _ _ _ (rs x hx) (D1.gex np)⟩⟩
theorem evd_catL (mono : ∀ (G G' : Hp) (v : V), R G v → Ex G G' → R G' v) (h1 : EvD T d t1 σ G H (LstV R k)) (h2 : ∀ G1 H1, Ex G G1 → DkT T G1 d H1 → EvD T d t2 σ G1 H1 (LstV R m)) (hk : k + m ≤ 1000) : EvD T d (tOp rCat t1 t2) σ G H (LstV R (k + m)) := fun Q q =>
  h1 _ fun v G1 H1 e1 D1 tv => h2 G1 H1 e1 D1 _ fun v2 G2 H2 e2 D2 ⟨b, ys, ev2, hb, hy, oy⟩ => by
    obtain ⟨a, xs, rfl, ha, hx, ox⟩ := tv.more mono e2
    subst ev2
    exact ⟨a, b, xs, ys, rfl, rfl, D2.get ha, D2.get hb, Nat.le_trans (show xs.length + ys.length ≤ 1000 by omega) (by decide), fun p np => q _ _ _ ((e1.trans e2).trans (D2.gex np)) (D2.made np) ⟨p, _, rfl, upd_same, by rw [List.length_append]; omega, fun x hx => by
      rcases List.mem_append.mp hx with z | z
      · exact mono _ _ _ (ox x z) (D2.gex np)
      · exact mono _ _ _ (oy x z) (D2.gex np)⟩⟩
end
/-- o.m(..), o a tuple or a list, the fragment named -/
theorem pe_bmK {X : Cx} {K : PySem.W.Frag} {Ty name id : String} {r : V → List V → Hp → VK → Prop} {o : Expr} {to : TE} {e : Expr} {es : List Expr} {t : TA} {apos cpos : Pos} (pa : PlainAttrs Ty) (slot : Slot Ty name id) (hty : typeOf (.builtin id) = pure (.type "method_descriptor")) (hm : MtR X id r) (ho : PE X o to) (ha : PA X (e :: es) t)
    (hK : X.K = K := by rfl)
    (hbase : attributeBase o name X.env (eval o X.env) = eval o X.env := by rfl)
    (hfew : ((backTo cpos (starEach (e :: es) X.env)).all (fun x => !x.1) && (backToKw cpos (keywordEach [] X.env)).all (fun x => x.1.isSome)
      && decide ((e :: es).length + ([] : List Keyword).length + (if ([] : List Keyword).isEmpty then 0 else 1) < 30)) = true := by rfl)
    (hline : (apos.endLine == cpos.line) = true := by rfl) (hs : starEach (e :: es) X.env = (false, eval e X.env) :: starEach es X.env := by rfl) (hplain : (backTo cpos (starEach es X.env)).any (·.1) = false := by rfl) :
    PE X (.Call (.Attribute o name apos) (e :: es) [] cpos) (tBM K Ty r to t) := by
  subst hK
  exact pe_bm pa slot hty hm ho ha hbase hfew hline hs hplain
/-- for x in (..): the tuple is made first -/
theorem r_forT {K : PySem.W.Frag} {ts : TA} {g : TG} {tb : TS} {D : Ends} {σ : L2.St} {H : Hp}
    (h : ts σ H fun xs H1 => xs.length ≤ sizeLine ∧ ∀ p, H1 p = none → (∃ a, V.ref p = .ref a ∧ (∃ ys, SqT K (upd H1 p (.tup xs)) a ys) ∧ ∃ W : Nat → Nat → L2.St → Hp → Prop, (∃ m, W 0 m σ (upd H1 p (.tup xs))) ∧ ∀ i m σ H, W i m σ H →
      ((Itt K a).stop i H ∧ D.nx σ H) ∨ ((Itt K a).go i H ∧ ∃ N : L2.St → Hp → Prop, (∀ σ' H', N σ' H' → ∃ m', m' < m ∧ W (i + 1) m' σ' H') ∧ ∀ x H', (Itt K a).yld i H x H' → g x σ H' fun σ2 H2 => tb { D with nx := N, ct := N, bk := D.nx } σ2 H2))) :
    tFor (iTup K (tTup ts)) g tb D σ H := h
/-- tuple(a list): the new tuple is told as it stands -/
def rTupF (K : PySem.W.Frag) : List V → Hp → VK → Prop := fun xs H Q => ∃ p ys, xs = [.ref p] ∧ SqL K H p ys ∧ ∀ l o, H l = none → o.dict = none → Q (.ref l) (upd H l (.frz o (.tup ys)))
theorem cr_tupF {X : Cx} : CallR X (.type "tuple") (rTupF X.K) := by
  intro pins s σ H xs us Q I r h
  obtain ⟨p, ys, rfl, hq, q⟩ := h
  obtain ⟨u, rfl, rx⟩ := vals1 r
  cases rx
  obtain ⟨its, r', pl, hz⟩ := I.list hq
  have hlen := r'.length
  refine call_tuple_list pl.isList (fun h' kp => ?_) (by simp only [List.size_toArray] <;> omega)
  have I1 : Inv X pins σ H { s with heap := h' } := I.kept (t' := s.toks) kp
  have I2 : Inv X pins σ (upd H h'.objs.size (.frz { cls := .type "tuple", data := .seq its.toArray } (.tup ys))) { s with heap := h'.push { cls := .type "tuple", data := .seq its.toArray } } :=
    I1.laid (t' := s.toks) (fun b o e => Heap.get?_push_of_some _ e) (Nat.le_refl _) (show ObjOk X.prog X.w _ _ _ (.frz _ (.tup ys)) from ⟨Heap.get?_push_size _ rfl, hz, its, r', IsTup.new _ _⟩)
  exact ⟨.ref h'.objs.size, _, I2, rfl, q _ _ (I1.hok.fresh (Nat.le_refl _)) rfl⟩
/-- o.m(..), o a frozen tuple -/
def tBMF (r : V → List V → Hp → VK → Prop) (to : TE) (t : TA) : TE := fun σ H Q => to σ H fun x H1 => (∃ a o xs, x = .ref a ∧ H1 a = some (.frz o (.tup xs)) ∧ o.dict = none) ∧ t σ H1 fun xs H2 => r x xs H2 Q
theorem pe_bmF {X : Cx} {name id : String} {r : V → List V → Hp → VK → Prop} {o : Expr} {to : TE} {e : Expr} {es : List Expr} {t : TA} {apos cpos : Pos} (slot : Slot "tuple" name id) (hty : typeOf (.builtin id) = pure (.type "method_descriptor")) (hm : MtR X id r) (ho : PE X o to) (ha : PA X (e :: es) t)
    (hbase : attributeBase o name X.env (eval o X.env) = eval o X.env := by rfl)
    (hfew : ((backTo cpos (starEach (e :: es) X.env)).all (fun x => !x.1) && (backToKw cpos (keywordEach [] X.env)).all (fun x => x.1.isSome)
      && decide ((e :: es).length + ([] : List Keyword).length + (if ([] : List Keyword).isEmpty then 0 else 1) < 30)) = true := by rfl)
    (hline : (apos.endLine == cpos.line) = true := by rfl) (hs : starEach (e :: es) X.env = (false, eval e X.env) :: starEach es X.env := by rfl) (hplain : (backTo cpos (starEach es X.env)).any (·.1) = false := by rfl) :
    PE X (.Call (.Attribute o name apos) (e :: es) [] cpos) (tBMF r to t) := by
  refine ⟨fun pins s σ H Q I h => ?_⟩
  refine wpAny_Call_method_late hbase hfew hline rfl (thn (ho.run pins s σ H _ I h) fun v s1 ⟨x, H1, I1, r1, ty, q1⟩ => ?_)
  obtain ⟨a, ob, ys, rfl, hf, hd⟩ := ty
  cases r1
  obtain ⟨hob, hz, its, rv, tp⟩ : ObjOk X.prog X.w H1 s1.heap a (.frz ob (.tup ys)) := I1.hok a _ hf
  obtain ⟨o2, ho2, hc2, rest⟩ := tp
  refine ⟨"tuple", id, PySem.F.plainAttrs_tuple, slot, hty, ⟨o2, ho2, hc2⟩, fun b e => by cases e; exact ⟨ob, hob, hd⟩, ?_⟩
  have hA := ha.run cpos pins s1 σ H1 _ I1 q1
  rw [hs] at hA ⊢
  refine Calls.callWith_builtin (by show (false || (backTo cpos (starEach es X.env)).any (·.1)) = false; rw [hplain] <;> rfl) (Calls.evalArgs_plain ?_)
  exact thn hA fun us s2 ⟨vs, H2, I2, r2, q2⟩ => hm pins s2 σ H2 (.ref a) vs _ us Q I2 rfl r2 q2
end Hr

/-! Tuples told as they stand (frozen): a display, t + u; t.index(x) of flat items. -/
namespace Hr
open PySem PySem.Spec PyProof.Rows L2
section
variable {X : Cx} {es : List Expr} {t : TA} {pos : Pos}
/-- (a, b, ..), told as it stands -/
def tTupF (t : TA) : TE := fun σ H Q => t σ H fun xs H1 => xs.length ≤ sizeLine ∧ ∀ p o, H1 p = none → o.dict = none → Q (.ref p) (upd H1 p (.frz o (.tup xs)))
theorem pe_tupF {x1} (h : PA X es t) : PE X (.Tuple es x1 pos) (tTupF t) := by
  refine ⟨fun pins s σ H Q I hq => ?_⟩
  refine wpAny_Tuple_spliced (thn (h.run pos pins s σ H _ I hq) fun us s1 ⟨xs, H1, I1, r, z, q⟩ => ⟨by rw [← r.length]; exact z, ?_⟩)
  have hf : H1 s1.heap.objs.size = none := I1.hok.fresh (Nat.le_refl _)
  refine ⟨.ref s1.heap.objs.size, upd H1 s1.heap.objs.size (.frz { cls := .type "tuple", data := .seq us.toArray } (.tup xs)), I1.laid (t' := s1.toks) (fun b u e => Heap.get?_push_of_some _ e) (Nat.le_refl _) ?_, rfl, q _ _ hf rfl⟩
  exact ⟨Heap.get?_push_size _ rfl, z, us, r, IsTup.new _ _⟩
/-- t + u, what is new told as it stands -/
def rCatF (K : PySem.W.Frag) : R2 := fun x y H Q => ∃ a b xs ys, x = .ref a ∧ y = .ref b ∧ SqT K H a xs ∧ SqT K H b ys ∧ xs.length + ys.length ≤ sizeLine ∧
  (xs = [] → Q (.ref b) H) ∧ (xs ≠ [] → ys = [] → Q (.ref a) H) ∧ (xs ≠ [] → ys ≠ [] → ∀ p o, H p = none → o.dict = none → Q (.ref p) (upd H p (.frz o (.tup (xs ++ ys)))))
theorem op_catF : OpR X (binaryOp .Add) (rCatF X.K) := by
  intro pins s σ H x y v u Q I rx ry h
  obtain ⟨a, b, xs, ys, rfl, rfl, ha, hb, hz, q0, q1, q2⟩ := h
  cases rx
  cases ry
  obtain ⟨its, r1, p1, _⟩ := I.tuple ha
  obtain ⟨its2, r2, p2, _⟩ := I.tuple hb
  by_cases hx : xs = []
  · subst hx
    cases r1
    exact cat_tup0 p1 p2 ⟨.ref b, H, I, rfl, q0 rfl⟩
  · refine HT.cat_tup p1 p2 (fun z => hx (r1.nil_iff.mp z)) (fun z => ⟨.ref a, H, I, rfl, q1 hx (r2.nil_iff.mp z)⟩) (fun z => ?_) (by rw [← r1.length, ← r2.length]; exact hz)
    refine ⟨.ref s.heap.objs.size, _, I.laid (t' := s.toks) (o := .frz { cls := .type "tuple", data := .seq (its ++ its2).toArray } (.tup (xs ++ ys))) (fun b ob q => Heap.get?_push_of_some _ q) (Nat.le_refl _) ?_, rfl, q2 hx (fun w => z (r2.nil_iff.mpr w)) _ _ (I.hok.fresh (Nat.le_refl _)) rfl⟩
    exact ⟨Heap.get?_push_size _ rfl, by rw [List.length_append]; exact hz, _, r1.append r2, IsTup.new _ _⟩
/-- t.index(x), flat items, the first place -/
def rIdxV (K : PySem.W.Frag) : V → List V → Hp → VK → Prop := fun x xs H Q => ∃ (a : Addr) (ys : List V) (y : V) (j : Nat) (z : V), x = V.ref a ∧ xs = [y] ∧ SqT K H a ys ∧ flatV y = true ∧ ys.all flatV = true ∧ ys[j]? = some z ∧ eqV z y = true ∧
  (∀ (m : Nat) (z' : V), m < j → ys[m]? = some z' → eqV z' y = false) ∧ Q (.int (j : Nat)) H
theorem mt_tupIdxV : MtR X "tuple.index" (rIdxV X.K) := by
  intro pins s σ H x xs v us Q I rx rxs h
  obtain ⟨a, ys, y, j, z, rfl, rfl, hs, fy, fys, hz, hzj, hno, q⟩ := h
  cases rx
  cases rxs with
  | cons ry rt =>
    rename_i uy ut
    cases rt
    obtain ⟨its, rv, ⟨⟨cls, dd, dt, sl⟩, ho, hc, n, hd⟩, hlen⟩ := I.tuple hs
    simp only at hc hd
    subst hc hd
    obtain ⟨u, hu, ru⟩ := rv.get hz
    obtain ⟨hjl, hje⟩ := List.getElem?_eq_some_iff.mp hu
    have hvl := rv.length
    have hj : j < its.toArray.size := by simpa using hjl
    refine call_meets PySem.F.slot_tuple_index ⟨_, ho, rfl⟩ PySem.F.entry_tuple_index (PySem.F.args_tuple_index_2 _ _)
      (TI.tuple_indexAt a its.toArray n dd sl uy (eqU y) j hj ?_ ?_) ⟨ho, fun u' hu' => mem_eqAt ry fy rv fys u' (by simpa using hu'), ?_⟩
    · have e1 : its.toArray[j] = u := by simpa using hje
      rw [e1, eqU_of ru (flat_at fys hz)]
      exact hzj
    · intro m hm hmj
      have hml : m < its.length := by simpa using hm
      obtain ⟨w, hw⟩ : ∃ w, ys[m]? = some w := ⟨_, List.getElem?_eq_getElem (by omega)⟩
      obtain ⟨u2, hu2, ru2⟩ := rv.get hw
      have e1 : its.toArray[m] = u2 := by simpa using (List.getElem?_eq_some_iff.mp hu2).2
      rw [e1, eqU_of ru2 (flat_at fys hw)]
      exact hno m w hmj hw
    · exact ⟨.int (j : Nat), H, I.tok _, ⟨_, rfl⟩, q⟩
end
end Hr

namespace K88
open PySem PySem.Spec PyProof.Rows L2 Hr HrM Evl HrE_thing LamX
def topS (i : Nat) : Stmt := PySem.Challenge.pw_holerows_k88_the_ends_of_answers.main.body.getD i (.Pass ⟨0, 0, 0, 0⟩)
abbrev s_is_integer : Stmt := topS 11
theorem sc_is_integer : FnScope ["thing"] ["thing"] (defScope s_is_integer) := ⟨rfl, rfl, rfl, by decide +kernel, rfl, by decide +kernel, by decide +kernel⟩
abbrev s_is_integer_from : Stmt := topS 12
theorem sc_is_integer_from : FnScope ["thing", "least"] ["thing", "least"] (defScope s_is_integer_from) := ⟨rfl, rfl, rfl, by decide +kernel, rfl, by decide +kernel, by decide +kernel⟩
abbrev s_are_integers_from : Stmt := topS 13
theorem sc_are_integers_from : FnScope ["thing", "least", "part"] ["thing", "least"] (defScope s_are_integers_from) := ⟨rfl, rfl, rfl, by decide +kernel, rfl, by decide +kernel, by decide +kernel⟩
abbrev s_is_just : Stmt := topS 14
theorem sc_is_just : FnScope ["thing", "right", "part", "other"] ["thing", "right"] (defScope s_is_just) := ⟨rfl, rfl, rfl, by decide +kernel, rfl, by decide +kernel, by decide +kernel⟩
abbrev s_cascade_of : Stmt := topS 16
theorem sc_cascade_of : FnScope ["number", "size", "tops", "rest", "place", "top"] ["number", "size"] (defScope s_cascade_of) := ⟨rfl, rfl, rfl, by decide +kernel, rfl, by decide +kernel, by decide +kernel⟩
abbrev s_lower_sets : Stmt := topS 17
theorem sc_lower_sets : FnScope ["number", "size"] ["number", "size"] (defScope s_lower_sets) := ⟨rfl, rfl, rfl, by decide +kernel, rfl, by decide +kernel, by decide +kernel⟩
abbrev s_upper_sets : Stmt := topS 18
theorem sc_upper_sets : FnScope ["number", "size"] ["number", "size"] (defScope s_upper_sets) := ⟨rfl, rfl, rfl, by decide +kernel, rfl, by decide +kernel, by decide +kernel⟩
abbrev s_lower_products : Stmt := topS 19
theorem sc_lower_products : FnScope ["number", "size"] ["number", "size"] (defScope s_lower_products) := ⟨rfl, rfl, rfl, by decide +kernel, rfl, by decide +kernel, by decide +kernel⟩
abbrev s_upper_products : Stmt := topS 20
theorem sc_upper_products : FnScope ["number", "size"] ["number", "size"] (defScope s_upper_products) := ⟨rfl, rfl, rfl, by decide +kernel, rfl, by decide +kernel, by decide +kernel⟩
abbrev s_check_number : Stmt := topS 21
theorem sc_check_number : FnScope ["number"] ["number"] (defScope s_check_number) := ⟨rfl, rfl, rfl, by decide +kernel, rfl, by decide +kernel, by decide +kernel⟩
abbrev s_check_size : Stmt := topS 22
theorem sc_check_size : FnScope ["size"] ["size"] (defScope s_check_size) := ⟨rfl, rfl, rfl, by decide +kernel, rfl, by decide +kernel, by decide +kernel⟩
abbrev s_greatest_top : Stmt := topS 23
theorem sc_greatest_top : FnScope ["number", "size"] ["number", "size"] (defScope s_greatest_top) := ⟨rfl, rfl, rfl, by decide +kernel, rfl, by decide +kernel, by decide +kernel⟩
abbrev s_greatest_within : Stmt := topS 24
theorem sc_greatest_within : FnScope ["number", "least", "count_at", "low", "high", "middle"] ["number", "least", "count_at"] (defScope s_greatest_within) := ⟨rfl, rfl, rfl, by decide +kernel, rfl, by decide +kernel, by decide +kernel⟩
abbrev s_moved_sum : Stmt := topS 25
theorem sc_moved_sum : FnScope ["size", "cascade", "more_things", "more_size", "k", "top"] ["size", "cascade", "more_things", "more_size"] (defScope s_moved_sum) := ⟨rfl, rfl, rfl, by decide +kernel, rfl, by decide +kernel, by decide +kernel⟩
abbrev s_is_counts : Stmt := topS 28
theorem sc_is_counts : FnScope ["thing"] ["thing"] (defScope s_is_counts) := ⟨rfl, rfl, rfl, by decide +kernel, rfl, by decide +kernel, by decide +kernel⟩
abbrev s_judge_counts : Stmt := topS 29
theorem sc_judge_counts : FnScope ["counts"] ["counts"] (defScope s_judge_counts) := ⟨rfl, rfl, rfl, by decide +kernel, rfl, by decide +kernel, by decide +kernel⟩
abbrev s_check_counts : Stmt := topS 30
theorem sc_check_counts : FnScope ["counts"] ["counts"] (defScope s_check_counts) := ⟨rfl, rfl, rfl, by decide +kernel, rfl, by decide +kernel, by decide +kernel⟩
abbrev s_counts_certificates : Stmt := topS 32
theorem sc_counts_certificates : FnScope ["counts", "places", "lowers", "faults", "k"] ["counts"] (defScope s_counts_certificates) := ⟨rfl, rfl, rfl, by decide +kernel, rfl, by decide +kernel, by decide +kernel⟩
abbrev s_judge_row : Stmt := topS 43
theorem sc_judge_row : FnScope ["row"] ["row"] (defScope s_judge_row) := ⟨rfl, rfl, rfl, by decide +kernel, rfl, by decide +kernel, by decide +kernel⟩
abbrev s_begins_with_1 : Stmt := topS 45
theorem sc_begins_with_1 : FnScope ["thing"] ["thing"] (defScope s_begins_with_1) := ⟨rfl, rfl, rfl, by decide +kernel, rfl, by decide +kernel, by decide +kernel⟩
abbrev s_row_certificates : Stmt := topS 46
theorem sc_row_certificates : FnScope ["row", "degrees", "uppers", "faults", "k"] ["row"] (defScope s_row_certificates) := ⟨rfl, rfl, rfl, by decide +kernel, rfl, by decide +kernel, by decide +kernel⟩
abbrev s_judge_sound_counts : Stmt := topS 55
theorem sc_judge_sound_counts : FnScope ["counts"] ["counts"] (defScope s_judge_sound_counts) := ⟨rfl, rfl, rfl, by decide +kernel, rfl, by decide +kernel, by decide +kernel⟩
abbrev s_judge_sphere : Stmt := topS 58
theorem sc_judge_sphere : FnScope ["counts"] ["counts"] (defScope s_judge_sphere) := ⟨rfl, rfl, rfl, by decide +kernel, rfl, by decide +kernel, by decide +kernel⟩
abbrev s_judge_colours : Stmt := topS 36
theorem sc_judge_colours : FnScope ["counts", "r"] ["counts", "r"] (defScope s_judge_colours) := ⟨rfl, rfl, rfl, by decide +kernel, rfl, by decide +kernel, by decide +kernel⟩
abbrev s_judge_rows : Stmt := topS 50
theorem sc_judge_rows : FnScope ["counts", "holes"] ["counts", "holes"] (defScope s_judge_rows) := ⟨rfl, rfl, rfl, by decide +kernel, rfl, by decide +kernel, by decide +kernel⟩
abbrev s_is_ask : Stmt := topS 64
theorem sc_is_ask : FnScope ["thing", "rows", "row"] ["thing"] (defScope s_is_ask) := ⟨rfl, rfl, rfl, by decide +kernel, rfl, by decide +kernel, by decide +kernel⟩
abbrev s_is_answer : Stmt := topS 65
theorem sc_is_answer : FnScope ["ask", "thing"] ["ask", "thing"] (defScope s_is_answer) := ⟨rfl, rfl, rfl, by decide +kernel, rfl, by decide +kernel, by decide +kernel⟩
abbrev s_ends_of : Stmt := topS 66
theorem sc_ends_of : FnScope ["ask", "row", "place", "least", "greatest"] ["ask"] (defScope s_ends_of) := ⟨rfl, rfl, rfl, by decide +kernel, rfl, by decide +kernel, by decide +kernel⟩
abbrev s_check_ask : Stmt := topS 67
theorem sc_check_ask : FnScope ["ask"] ["ask"] (defScope s_check_ask) := ⟨rfl, rfl, rfl, by decide +kernel, rfl, by decide +kernel, by decide +kernel⟩
abbrev s_is_gap_row : Stmt := topS 68
theorem sc_is_gap_row : FnScope ["thing", "item"] ["thing"] (defScope s_is_gap_row) := ⟨rfl, rfl, rfl, by decide +kernel, rfl, by decide +kernel, by decide +kernel⟩
abbrev s_rows_in : Stmt := topS 69
theorem sc_rows_in : FnScope ["ask"] ["ask"] (defScope s_rows_in) := ⟨rfl, rfl, rfl, by decide +kernel, rfl, by decide +kernel, by decide +kernel⟩
abbrev s_many_gaps : Stmt := topS 70
theorem sc_many_gaps : FnScope ["ask", "row", "item"] ["ask"] (defScope s_many_gaps) := ⟨rfl, rfl, rfl, by decide +kernel, rfl, by decide +kernel, by decide +kernel⟩
abbrev s_filled : Stmt := topS 71
theorem sc_filled : FnScope ["ask", "numbers", "rows", "used", "row", "items", "item"] ["ask", "numbers"] (defScope s_filled) := ⟨rfl, rfl, rfl, by decide +kernel, rfl, by decide +kernel, by decide +kernel⟩
abbrev s_is_fit : Stmt := topS 72
theorem sc_is_fit : FnScope ["ask", "numbers", "rows"] ["ask", "numbers"] (defScope s_is_fit) := ⟨rfl, rfl, rfl, by decide +kernel, rfl, by decide +kernel, by decide +kernel⟩
abbrev s_certificate_for : Stmt := topS 73
theorem sc_certificate_for : FnScope ["ask", "rows", "word"] ["ask", "rows"] (defScope s_certificate_for) := ⟨rfl, rfl, rfl, by decide +kernel, rfl, by decide +kernel, by decide +kernel⟩
abbrev s_ends_of_sets : Stmt := topS 74
theorem sc_ends_of_sets : FnScope ["row", "place", "least", "greatest"] ["row", "place"] (defScope s_ends_of_sets) := ⟨rfl, rfl, rfl, by decide +kernel, rfl, by decide +kernel, by decide +kernel⟩
abbrev s_ends_of_products : Stmt := topS 75
theorem sc_ends_of_products : FnScope ["row", "place", "least", "greatest"] ["row", "place"] (defScope s_ends_of_products) := ⟨rfl, rfl, rfl, by decide +kernel, rfl, by decide +kernel, by decide +kernel⟩
abbrev s_l_deck : Stmt := topS 77
theorem sc_l_deck : FnScope ["script", "mixed", "cell"] ["script"] (defScope s_l_deck) := ⟨rfl, rfl, rfl, by decide +kernel, rfl, by decide +kernel, by decide +kernel⟩
abbrev s_l_draw : Stmt := topS 78
theorem sc_l_draw : FnScope ["deck", "many", "figure", "cell"] ["deck", "many"] (defScope s_l_draw) := ⟨rfl, rfl, rfl, by decide +kernel, rfl, by decide +kernel, by decide +kernel⟩
abbrev s_l_pick : Stmt := topS 79
theorem sc_l_pick : FnScope ["deck", "some"] ["deck", "some"] (defScope s_l_pick) := ⟨rfl, rfl, rfl, by decide +kernel, rfl, by decide +kernel, by decide +kernel⟩
abbrev s_l_choose : Stmt := topS 80
theorem sc_l_choose : FnScope ["a", "b", "found", "k"] ["a", "b"] (defScope s_l_choose) := ⟨rfl, rfl, rfl, by decide +kernel, rfl, by decide +kernel, by decide +kernel⟩
abbrev s_l_greatest : Stmt := topS 81
theorem sc_l_greatest : FnScope ["n", "s", "low", "high", "half"] ["n", "s"] (defScope s_l_greatest) := ⟨rfl, rfl, rfl, by decide +kernel, rfl, by decide +kernel, by decide +kernel⟩
abbrev s_l_cascade : Stmt := topS 82
theorem sc_l_cascade : FnScope ["n", "s", "found", "i", "a"] ["n", "s"] (defScope s_l_cascade) := ⟨rfl, rfl, rfl, by decide +kernel, rfl, by decide +kernel, by decide +kernel⟩
abbrev s_l_lower_sets : Stmt := topS 83
theorem sc_l_lower_sets : FnScope ["n", "s", "a", "i"] ["n", "s"] (defScope s_l_lower_sets) := ⟨rfl, rfl, rfl, by decide +kernel, rfl, by decide +kernel, by decide +kernel⟩
abbrev s_l_upper_products : Stmt := topS 84
theorem sc_l_upper_products : FnScope ["n", "s", "a", "i"] ["n", "s"] (defScope s_l_upper_products) := ⟨rfl, rfl, rfl, by decide +kernel, rfl, by decide +kernel, by decide +kernel⟩
abbrev s_l_upper_sets : Stmt := topS 85
theorem sc_l_upper_sets : FnScope ["n", "s", "a", "i"] ["n", "s"] (defScope s_l_upper_sets) := ⟨rfl, rfl, rfl, by decide +kernel, rfl, by decide +kernel, by decide +kernel⟩
abbrev s_l_lower_products : Stmt := topS 86
theorem sc_l_lower_products : FnScope ["n", "s", "a", "i"] ["n", "s"] (defScope s_l_lower_products) := ⟨rfl, rfl, rfl, by decide +kernel, rfl, by decide +kernel, by decide +kernel⟩
abbrev s_l_row : Stmt := topS 87
theorem sc_l_row : FnScope ["deck", "word", "many", "great", "first", "row", "k", "size", "top", "more"] ["deck", "word"] (defScope s_l_row) := ⟨rfl, rfl, rfl, by decide +kernel, rfl, by decide +kernel, by decide +kernel⟩
abbrev s_l_ends : Stmt := topS 88
theorem sc_l_ends : FnScope ["word", "row", "at", "k", "low", "high", "it"] ["word", "row", "at"] (defScope s_l_ends) := ⟨rfl, rfl, rfl, by decide +kernel, rfl, by decide +kernel, by decide +kernel⟩
abbrev s_l_is_right : Stmt := topS 89
theorem sc_l_is_right : FnScope ["deck", "word", "row", "at", "gapped", "ask", "due", "told", "low", "high", "top", "some", "number", "is_it"] ["deck", "word", "row"] (defScope s_l_is_right) := ⟨rfl, rfl, rfl, by decide +kernel, rfl, by decide +kernel, by decide +kernel⟩
abbrev s_l_are_numbers_right : Stmt := topS 90
theorem sc_l_are_numbers_right : FnScope ["word", "row", "at", "ends", "low", "high", "near", "far"] ["word", "row", "at", "ends"] (defScope s_l_are_numbers_right) := ⟨rfl, rfl, rfl, by decide +kernel, rfl, by decide +kernel, by decide +kernel⟩
abbrev s_l_is_refused : Stmt := topS 91
theorem sc_l_is_refused : FnScope ["ask", "e"] ["ask"] (defScope s_l_is_refused) := ⟨rfl, rfl, rfl, by decide +kernel, rfl, by decide +kernel, by decide +kernel⟩
abbrev s_law : Stmt := topS 92
theorem sc_law : FnScope ["script", "deck", "turn", "word", "row", "bent", "at", "long", "some", "k"] ["script"] (defScope s_law) := ⟨rfl, rfl, rfl, by decide +kernel, rfl, by decide +kernel, by decide +kernel⟩
structure Txt (K : PySem.W.Frag) (mg : Str → Option Value) where
  f_is_integer : Addr
  d_is_integer : FuncData
  U_is_integer : Fun K "is_integer" "is_integer" s_is_integer f_is_integer d_is_integer
  g_is_integer : mg "is_integer" = some (.ref f_is_integer)
  b_is_integer : Binds K d_is_integer ["thing"] []
  f_is_integer_from : Addr
  d_is_integer_from : FuncData
  U_is_integer_from : Fun K "is_integer_from" "is_integer_from" s_is_integer_from f_is_integer_from d_is_integer_from
  g_is_integer_from : mg "is_integer_from" = some (.ref f_is_integer_from)
  b_is_integer_from : Binds K d_is_integer_from ["thing", "least"] []
  f_are_integers_from : Addr
  d_are_integers_from : FuncData
  U_are_integers_from : Fun K "are_integers_from" "are_integers_from" s_are_integers_from f_are_integers_from d_are_integers_from
  g_are_integers_from : mg "are_integers_from" = some (.ref f_are_integers_from)
  b_are_integers_from : Binds K d_are_integers_from ["thing", "least"] []
  f_is_just : Addr
  d_is_just : FuncData
  U_is_just : Fun K "is_just" "is_just" s_is_just f_is_just d_is_just
  g_is_just : mg "is_just" = some (.ref f_is_just)
  b_is_just : Binds K d_is_just ["thing", "right"] []
  f_cascade_of : Addr
  d_cascade_of : FuncData
  U_cascade_of : Fun K "cascade_of" "cascade_of" s_cascade_of f_cascade_of d_cascade_of
  g_cascade_of : mg "cascade_of" = some (.ref f_cascade_of)
  b_cascade_of : Binds K d_cascade_of ["number", "size"] []
  f_lower_sets : Addr
  d_lower_sets : FuncData
  U_lower_sets : Fun K "lower_sets" "lower_sets" s_lower_sets f_lower_sets d_lower_sets
  g_lower_sets : mg "lower_sets" = some (.ref f_lower_sets)
  b_lower_sets : Binds K d_lower_sets ["number", "size"] []
  f_upper_sets : Addr
  d_upper_sets : FuncData
  U_upper_sets : Fun K "upper_sets" "upper_sets" s_upper_sets f_upper_sets d_upper_sets
  g_upper_sets : mg "upper_sets" = some (.ref f_upper_sets)
  b_upper_sets : Binds K d_upper_sets ["number", "size"] []
  f_lower_products : Addr
  d_lower_products : FuncData
  U_lower_products : Fun K "lower_products" "lower_products" s_lower_products f_lower_products d_lower_products
  g_lower_products : mg "lower_products" = some (.ref f_lower_products)
  b_lower_products : Binds K d_lower_products ["number", "size"] []
  f_upper_products : Addr
  d_upper_products : FuncData
  U_upper_products : Fun K "upper_products" "upper_products" s_upper_products f_upper_products d_upper_products
  g_upper_products : mg "upper_products" = some (.ref f_upper_products)
  b_upper_products : Binds K d_upper_products ["number", "size"] []
  f_check_number : Addr
  d_check_number : FuncData
  U_check_number : Fun K "check_number" "check_number" s_check_number f_check_number d_check_number
  g_check_number : mg "check_number" = some (.ref f_check_number)
  b_check_number : Binds K d_check_number ["number"] []
  f_check_size : Addr
  d_check_size : FuncData
  U_check_size : Fun K "check_size" "check_size" s_check_size f_check_size d_check_size
  g_check_size : mg "check_size" = some (.ref f_check_size)
  b_check_size : Binds K d_check_size ["size"] []
  f_greatest_top : Addr
  d_greatest_top : FuncData
  U_greatest_top : Fun K "greatest_top" "greatest_top" s_greatest_top f_greatest_top d_greatest_top
  g_greatest_top : mg "greatest_top" = some (.ref f_greatest_top)
  b_greatest_top : Binds K d_greatest_top ["number", "size"] []
  f_greatest_within : Addr
  d_greatest_within : FuncData
  U_greatest_within : Fun K "greatest_within" "greatest_within" s_greatest_within f_greatest_within d_greatest_within
  g_greatest_within : mg "greatest_within" = some (.ref f_greatest_within)
  b_greatest_within : Binds K d_greatest_within ["number", "least", "count_at"] []
  f_moved_sum : Addr
  d_moved_sum : FuncData
  U_moved_sum : Fun K "moved_sum" "moved_sum" s_moved_sum f_moved_sum d_moved_sum
  g_moved_sum : mg "moved_sum" = some (.ref f_moved_sum)
  b_moved_sum : Binds K d_moved_sum ["size", "cascade", "more_things", "more_size"] []
  f_is_counts : Addr
  d_is_counts : FuncData
  U_is_counts : Fun K "is_counts" "is_counts" s_is_counts f_is_counts d_is_counts
  g_is_counts : mg "is_counts" = some (.ref f_is_counts)
  b_is_counts : Binds K d_is_counts ["thing"] []
  f_judge_counts : Addr
  d_judge_counts : FuncData
  U_judge_counts : Fun K "judge_counts" "judge_counts" s_judge_counts f_judge_counts d_judge_counts
  g_judge_counts : mg "judge_counts" = some (.ref f_judge_counts)
  b_judge_counts : Binds K d_judge_counts ["counts"] []
  f_check_counts : Addr
  d_check_counts : FuncData
  U_check_counts : Fun K "check_counts" "check_counts" s_check_counts f_check_counts d_check_counts
  g_check_counts : mg "check_counts" = some (.ref f_check_counts)
  b_check_counts : Binds K d_check_counts ["counts"] []
  f_counts_certificates : Addr
  d_counts_certificates : FuncData
  U_counts_certificates : Fun K "counts_certificates" "counts_certificates" s_counts_certificates f_counts_certificates d_counts_certificates
  g_counts_certificates : mg "counts_certificates" = some (.ref f_counts_certificates)
  b_counts_certificates : Binds K d_counts_certificates ["counts"] []
  f_judge_row : Addr
  d_judge_row : FuncData
  U_judge_row : Fun K "judge_row" "judge_row" s_judge_row f_judge_row d_judge_row
  g_judge_row : mg "judge_row" = some (.ref f_judge_row)
  b_judge_row : Binds K d_judge_row ["row"] []
  f_begins_with_1 : Addr
  d_begins_with_1 : FuncData
  U_begins_with_1 : Fun K "begins_with_1" "begins_with_1" s_begins_with_1 f_begins_with_1 d_begins_with_1
  g_begins_with_1 : mg "begins_with_1" = some (.ref f_begins_with_1)
  b_begins_with_1 : Binds K d_begins_with_1 ["thing"] []
  f_row_certificates : Addr
  d_row_certificates : FuncData
  U_row_certificates : Fun K "row_certificates" "row_certificates" s_row_certificates f_row_certificates d_row_certificates
  g_row_certificates : mg "row_certificates" = some (.ref f_row_certificates)
  b_row_certificates : Binds K d_row_certificates ["row"] []
  f_judge_sound_counts : Addr
  d_judge_sound_counts : FuncData
  U_judge_sound_counts : Fun K "judge_sound_counts" "judge_sound_counts" s_judge_sound_counts f_judge_sound_counts d_judge_sound_counts
  g_judge_sound_counts : mg "judge_sound_counts" = some (.ref f_judge_sound_counts)
  b_judge_sound_counts : Binds K d_judge_sound_counts ["counts"] []
  f_judge_sphere : Addr
  d_judge_sphere : FuncData
  U_judge_sphere : Fun K "judge_sphere" "judge_sphere" s_judge_sphere f_judge_sphere d_judge_sphere
  g_judge_sphere : mg "judge_sphere" = some (.ref f_judge_sphere)
  b_judge_sphere : Binds K d_judge_sphere ["counts"] []
  f_judge_colours : Addr
  d_judge_colours : FuncData
  U_judge_colours : Fun K "judge_colours" "judge_colours" s_judge_colours f_judge_colours d_judge_colours
  g_judge_colours : mg "judge_colours" = some (.ref f_judge_colours)
  b_judge_colours : Binds K d_judge_colours ["counts", "r"] []
  f_judge_rows : Addr
  d_judge_rows : FuncData
  U_judge_rows : Fun K "judge_rows" "judge_rows" s_judge_rows f_judge_rows d_judge_rows
  g_judge_rows : mg "judge_rows" = some (.ref f_judge_rows)
  b_judge_rows : Binds K d_judge_rows ["counts", "holes"] []
  f_is_ask : Addr
  d_is_ask : FuncData
  U_is_ask : Fun K "is_ask" "is_ask" s_is_ask f_is_ask d_is_ask
  g_is_ask : mg "is_ask" = some (.ref f_is_ask)
  b_is_ask : Binds K d_is_ask ["thing"] []
  f_is_answer : Addr
  d_is_answer : FuncData
  U_is_answer : Fun K "is_answer" "is_answer" s_is_answer f_is_answer d_is_answer
  g_is_answer : mg "is_answer" = some (.ref f_is_answer)
  b_is_answer : Binds K d_is_answer ["ask", "thing"] []
  f_ends_of : Addr
  d_ends_of : FuncData
  U_ends_of : Fun K "ends_of" "ends_of" s_ends_of f_ends_of d_ends_of
  g_ends_of : mg "ends_of" = some (.ref f_ends_of)
  b_ends_of : Binds K d_ends_of ["ask"] []
  f_check_ask : Addr
  d_check_ask : FuncData
  U_check_ask : Fun K "check_ask" "check_ask" s_check_ask f_check_ask d_check_ask
  g_check_ask : mg "check_ask" = some (.ref f_check_ask)
  b_check_ask : Binds K d_check_ask ["ask"] []
  f_is_gap_row : Addr
  d_is_gap_row : FuncData
  U_is_gap_row : Fun K "is_gap_row" "is_gap_row" s_is_gap_row f_is_gap_row d_is_gap_row
  g_is_gap_row : mg "is_gap_row" = some (.ref f_is_gap_row)
  b_is_gap_row : Binds K d_is_gap_row ["thing"] []
  f_rows_in : Addr
  d_rows_in : FuncData
  U_rows_in : Fun K "rows_in" "rows_in" s_rows_in f_rows_in d_rows_in
  g_rows_in : mg "rows_in" = some (.ref f_rows_in)
  b_rows_in : Binds K d_rows_in ["ask"] []
  f_many_gaps : Addr
  d_many_gaps : FuncData
  U_many_gaps : Fun K "many_gaps" "many_gaps" s_many_gaps f_many_gaps d_many_gaps
  g_many_gaps : mg "many_gaps" = some (.ref f_many_gaps)
  b_many_gaps : Binds K d_many_gaps ["ask"] []
  f_filled : Addr
  d_filled : FuncData
  U_filled : Fun K "filled" "filled" s_filled f_filled d_filled
  g_filled : mg "filled" = some (.ref f_filled)
  b_filled : Binds K d_filled ["ask", "numbers"] []
  f_is_fit : Addr
  d_is_fit : FuncData
  U_is_fit : Fun K "is_fit" "is_fit" s_is_fit f_is_fit d_is_fit
  g_is_fit : mg "is_fit" = some (.ref f_is_fit)
  b_is_fit : Binds K d_is_fit ["ask", "numbers"] []
  f_certificate_for : Addr
  d_certificate_for : FuncData
  U_certificate_for : Fun K "certificate_for" "certificate_for" s_certificate_for f_certificate_for d_certificate_for
  g_certificate_for : mg "certificate_for" = some (.ref f_certificate_for)
  b_certificate_for : Binds K d_certificate_for ["ask", "rows"] []
  f_ends_of_sets : Addr
  d_ends_of_sets : FuncData
  U_ends_of_sets : Fun K "ends_of_sets" "ends_of_sets" s_ends_of_sets f_ends_of_sets d_ends_of_sets
  g_ends_of_sets : mg "ends_of_sets" = some (.ref f_ends_of_sets)
  b_ends_of_sets : Binds K d_ends_of_sets ["row", "place"] []
  f_ends_of_products : Addr
  d_ends_of_products : FuncData
  U_ends_of_products : Fun K "ends_of_products" "ends_of_products" s_ends_of_products f_ends_of_products d_ends_of_products
  g_ends_of_products : mg "ends_of_products" = some (.ref f_ends_of_products)
  b_ends_of_products : Binds K d_ends_of_products ["row", "place"] []
  f_l_deck : Addr
  d_l_deck : FuncData
  U_l_deck : Fun K "_law_deck" "_law_deck" s_l_deck f_l_deck d_l_deck
  g_l_deck : mg "_law_deck" = some (.ref f_l_deck)
  b_l_deck : Binds K d_l_deck ["script"] []
  f_l_draw : Addr
  d_l_draw : FuncData
  U_l_draw : Fun K "_law_draw" "_law_draw" s_l_draw f_l_draw d_l_draw
  g_l_draw : mg "_law_draw" = some (.ref f_l_draw)
  b_l_draw : Binds K d_l_draw ["deck", "many"] []
  f_l_pick : Addr
  d_l_pick : FuncData
  U_l_pick : Fun K "_law_pick" "_law_pick" s_l_pick f_l_pick d_l_pick
  g_l_pick : mg "_law_pick" = some (.ref f_l_pick)
  b_l_pick : Binds K d_l_pick ["deck", "some"] []
  f_l_choose : Addr
  d_l_choose : FuncData
  U_l_choose : Fun K "_law_choose" "_law_choose" s_l_choose f_l_choose d_l_choose
  g_l_choose : mg "_law_choose" = some (.ref f_l_choose)
  b_l_choose : Binds K d_l_choose ["a", "b"] []
  f_l_greatest : Addr
  d_l_greatest : FuncData
  U_l_greatest : Fun K "_law_greatest" "_law_greatest" s_l_greatest f_l_greatest d_l_greatest
  g_l_greatest : mg "_law_greatest" = some (.ref f_l_greatest)
  b_l_greatest : Binds K d_l_greatest ["n", "s"] []
  f_l_cascade : Addr
  d_l_cascade : FuncData
  U_l_cascade : Fun K "_law_cascade" "_law_cascade" s_l_cascade f_l_cascade d_l_cascade
  g_l_cascade : mg "_law_cascade" = some (.ref f_l_cascade)
  b_l_cascade : Binds K d_l_cascade ["n", "s"] []
  f_l_lower_sets : Addr
  d_l_lower_sets : FuncData
  U_l_lower_sets : Fun K "_law_lower_sets" "_law_lower_sets" s_l_lower_sets f_l_lower_sets d_l_lower_sets
  g_l_lower_sets : mg "_law_lower_sets" = some (.ref f_l_lower_sets)
  b_l_lower_sets : Binds K d_l_lower_sets ["n", "s"] []
  f_l_upper_products : Addr
  d_l_upper_products : FuncData
  U_l_upper_products : Fun K "_law_upper_products" "_law_upper_products" s_l_upper_products f_l_upper_products d_l_upper_products
  g_l_upper_products : mg "_law_upper_products" = some (.ref f_l_upper_products)
  b_l_upper_products : Binds K d_l_upper_products ["n", "s"] []
  f_l_upper_sets : Addr
  d_l_upper_sets : FuncData
  U_l_upper_sets : Fun K "_law_upper_sets" "_law_upper_sets" s_l_upper_sets f_l_upper_sets d_l_upper_sets
  g_l_upper_sets : mg "_law_upper_sets" = some (.ref f_l_upper_sets)
  b_l_upper_sets : Binds K d_l_upper_sets ["n", "s"] []
  f_l_lower_products : Addr
  d_l_lower_products : FuncData
  U_l_lower_products : Fun K "_law_lower_products" "_law_lower_products" s_l_lower_products f_l_lower_products d_l_lower_products
  g_l_lower_products : mg "_law_lower_products" = some (.ref f_l_lower_products)
  b_l_lower_products : Binds K d_l_lower_products ["n", "s"] []
  f_l_row : Addr
  d_l_row : FuncData
  U_l_row : Fun K "_law_row" "_law_row" s_l_row f_l_row d_l_row
  g_l_row : mg "_law_row" = some (.ref f_l_row)
  b_l_row : Binds K d_l_row ["deck", "word"] []
  f_l_ends : Addr
  d_l_ends : FuncData
  U_l_ends : Fun K "_law_ends" "_law_ends" s_l_ends f_l_ends d_l_ends
  g_l_ends : mg "_law_ends" = some (.ref f_l_ends)
  b_l_ends : Binds K d_l_ends ["word", "row", "at"] []
  f_l_is_right : Addr
  d_l_is_right : FuncData
  U_l_is_right : Fun K "_law_is_right" "_law_is_right" s_l_is_right f_l_is_right d_l_is_right
  g_l_is_right : mg "_law_is_right" = some (.ref f_l_is_right)
  b_l_is_right : Binds K d_l_is_right ["deck", "word", "row"] []
  f_l_are_numbers_right : Addr
  d_l_are_numbers_right : FuncData
  U_l_are_numbers_right : Fun K "_law_are_numbers_right" "_law_are_numbers_right" s_l_are_numbers_right f_l_are_numbers_right d_l_are_numbers_right
  g_l_are_numbers_right : mg "_law_are_numbers_right" = some (.ref f_l_are_numbers_right)
  b_l_are_numbers_right : Binds K d_l_are_numbers_right ["word", "row", "at", "ends"] []
  f_l_is_refused : Addr
  d_l_is_refused : FuncData
  U_l_is_refused : Fun K "_law_is_refused" "_law_is_refused" s_l_is_refused f_l_is_refused d_l_is_refused
  g_l_is_refused : mg "_law_is_refused" = some (.ref f_l_is_refused)
  b_l_is_refused : Binds K d_l_is_refused ["ask"] []
  f_law : Addr
  d_law : FuncData
  U_law : Fun K "law" "law" s_law f_law d_law
  g_law : mg "law" = some (.ref f_law)
  b_law : Binds K d_law ["script"] []
  t_MOST_COLOURS : Tok
  c_MOST_COLOURS : mg "MOST_COLOURS" = some (.int 8 t_MOST_COLOURS)
  t_MOST_COUNTS : Tok
  c_MOST_COUNTS : mg "MOST_COUNTS" = some (.int 16 t_MOST_COUNTS)
  t_MOST_GAPS : Tok
  c_MOST_GAPS : mg "MOST_GAPS" = some (.int 2 t_MOST_GAPS)
  A_ASKS : Addr
  g_ASKS : mg "ASKS" = some (.ref A_ASKS)
  t_ASKS_sets : Tok
  k_ASKS_sets : PySem.W.nsIn K A_ASKS "sets" = some (some (.int 2 t_ASKS_sets))
  t_ASKS_sound : Tok
  k_ASKS_sound : PySem.W.nsIn K A_ASKS "sound" = some (some (.int 2 t_ASKS_sound))
  t_ASKS_spheres : Tok
  k_ASKS_spheres : PySem.W.nsIn K A_ASKS "spheres" = some (some (.int 2 t_ASKS_spheres))
  t_ASKS_coloured : Tok
  k_ASKS_coloured : PySem.W.nsIn K A_ASKS "coloured" = some (some (.int 3 t_ASKS_coloured))
  t_ASKS_products : Tok
  k_ASKS_products : PySem.W.nsIn K A_ASKS "products" = some (some (.int 2 t_ASKS_products))
  t_ASKS_holes : Tok
  k_ASKS_holes : PySem.W.nsIn K A_ASKS "holes" = some (some (.int 3 t_ASKS_holes))
  n_all : mg "all" = none
  n_bool : mg "bool" = none
  n_enumerate : mg "enumerate" = none
  n_int : mg "int" = none
  n_isinstance : mg "isinstance" = none
  n_len : mg "len" = none
  n_list : mg "list" = none
  n_max : mg "max" = none
  n_min : mg "min" = none
  n_range : mg "range" = none
  n_repr : mg "repr" = none
  n_str : mg "str" = none
  n_sum : mg "sum" = none
  n_tuple : mg "tuple" = none
  n_zip : mg "zip" = none
  comb : mg "comb" = some (.builtin "math.comb")
  C_BadAsk : Addr
  I_BadAsk : Addr
  x_BadAsk : ExTxt K mg "BadAsk" C_BadAsk I_BadAsk
  o_BadAsk : OwnX K C_BadAsk
  C_CountError : Addr
  g_CountError : mg "CountError" = some (.ref C_CountError)
  o_CountError : OwnC K C_CountError
  u_BadAsk_CountError : PySem.W.subIn K (.ref C_BadAsk) (.ref C_CountError) = some true
  c_greatest_top : Addr
  P_greatest_top : Addr
  cd_greatest_top : d_greatest_top.code = .ref c_greatest_top
theorem Txt.k_is_integer {K : PySem.W.Frag} {mg : Str → Option Value} (T : Txt K mg) : PySem.W.keepIn K (.ref T.f_is_integer) = true := T.U_is_integer.kp
theorem Txt.k_is_integer_from {K : PySem.W.Frag} {mg : Str → Option Value} (T : Txt K mg) : PySem.W.keepIn K (.ref T.f_is_integer_from) = true := T.U_is_integer_from.kp
theorem Txt.k_are_integers_from {K : PySem.W.Frag} {mg : Str → Option Value} (T : Txt K mg) : PySem.W.keepIn K (.ref T.f_are_integers_from) = true := T.U_are_integers_from.kp
theorem Txt.k_is_just {K : PySem.W.Frag} {mg : Str → Option Value} (T : Txt K mg) : PySem.W.keepIn K (.ref T.f_is_just) = true := T.U_is_just.kp
theorem Txt.k_cascade_of {K : PySem.W.Frag} {mg : Str → Option Value} (T : Txt K mg) : PySem.W.keepIn K (.ref T.f_cascade_of) = true := T.U_cascade_of.kp
theorem Txt.k_lower_sets {K : PySem.W.Frag} {mg : Str → Option Value} (T : Txt K mg) : PySem.W.keepIn K (.ref T.f_lower_sets) = true := T.U_lower_sets.kp
theorem Txt.k_upper_sets {K : PySem.W.Frag} {mg : Str → Option Value} (T : Txt K mg) : PySem.W.keepIn K (.ref T.f_upper_sets) = true := T.U_upper_sets.kp
theorem Txt.k_lower_products {K : PySem.W.Frag} {mg : Str → Option Value} (T : Txt K mg) : PySem.W.keepIn K (.ref T.f_lower_products) = true := T.U_lower_products.kp
theorem Txt.k_upper_products {K : PySem.W.Frag} {mg : Str → Option Value} (T : Txt K mg) : PySem.W.keepIn K (.ref T.f_upper_products) = true := T.U_upper_products.kp
theorem Txt.k_check_number {K : PySem.W.Frag} {mg : Str → Option Value} (T : Txt K mg) : PySem.W.keepIn K (.ref T.f_check_number) = true := T.U_check_number.kp
theorem Txt.k_check_size {K : PySem.W.Frag} {mg : Str → Option Value} (T : Txt K mg) : PySem.W.keepIn K (.ref T.f_check_size) = true := T.U_check_size.kp
theorem Txt.k_greatest_top {K : PySem.W.Frag} {mg : Str → Option Value} (T : Txt K mg) : PySem.W.keepIn K (.ref T.f_greatest_top) = true := T.U_greatest_top.kp
theorem Txt.k_greatest_within {K : PySem.W.Frag} {mg : Str → Option Value} (T : Txt K mg) : PySem.W.keepIn K (.ref T.f_greatest_within) = true := T.U_greatest_within.kp
theorem Txt.k_moved_sum {K : PySem.W.Frag} {mg : Str → Option Value} (T : Txt K mg) : PySem.W.keepIn K (.ref T.f_moved_sum) = true := T.U_moved_sum.kp
theorem Txt.k_is_counts {K : PySem.W.Frag} {mg : Str → Option Value} (T : Txt K mg) : PySem.W.keepIn K (.ref T.f_is_counts) = true := T.U_is_counts.kp
theorem Txt.k_judge_counts {K : PySem.W.Frag} {mg : Str → Option Value} (T : Txt K mg) : PySem.W.keepIn K (.ref T.f_judge_counts) = true := T.U_judge_counts.kp
theorem Txt.k_check_counts {K : PySem.W.Frag} {mg : Str → Option Value} (T : Txt K mg) : PySem.W.keepIn K (.ref T.f_check_counts) = true := T.U_check_counts.kp
theorem Txt.k_counts_certificates {K : PySem.W.Frag} {mg : Str → Option Value} (T : Txt K mg) : PySem.W.keepIn K (.ref T.f_counts_certificates) = true := T.U_counts_certificates.kp
theorem Txt.k_judge_row {K : PySem.W.Frag} {mg : Str → Option Value} (T : Txt K mg) : PySem.W.keepIn K (.ref T.f_judge_row) = true := T.U_judge_row.kp
theorem Txt.k_begins_with_1 {K : PySem.W.Frag} {mg : Str → Option Value} (T : Txt K mg) : PySem.W.keepIn K (.ref T.f_begins_with_1) = true := T.U_begins_with_1.kp
theorem Txt.k_row_certificates {K : PySem.W.Frag} {mg : Str → Option Value} (T : Txt K mg) : PySem.W.keepIn K (.ref T.f_row_certificates) = true := T.U_row_certificates.kp
theorem Txt.k_judge_sound_counts {K : PySem.W.Frag} {mg : Str → Option Value} (T : Txt K mg) : PySem.W.keepIn K (.ref T.f_judge_sound_counts) = true := T.U_judge_sound_counts.kp
theorem Txt.k_judge_sphere {K : PySem.W.Frag} {mg : Str → Option Value} (T : Txt K mg) : PySem.W.keepIn K (.ref T.f_judge_sphere) = true := T.U_judge_sphere.kp
theorem Txt.k_judge_colours {K : PySem.W.Frag} {mg : Str → Option Value} (T : Txt K mg) : PySem.W.keepIn K (.ref T.f_judge_colours) = true := T.U_judge_colours.kp
theorem Txt.k_judge_rows {K : PySem.W.Frag} {mg : Str → Option Value} (T : Txt K mg) : PySem.W.keepIn K (.ref T.f_judge_rows) = true := T.U_judge_rows.kp
theorem Txt.k_is_ask {K : PySem.W.Frag} {mg : Str → Option Value} (T : Txt K mg) : PySem.W.keepIn K (.ref T.f_is_ask) = true := T.U_is_ask.kp
theorem Txt.k_is_answer {K : PySem.W.Frag} {mg : Str → Option Value} (T : Txt K mg) : PySem.W.keepIn K (.ref T.f_is_answer) = true := T.U_is_answer.kp
theorem Txt.k_ends_of {K : PySem.W.Frag} {mg : Str → Option Value} (T : Txt K mg) : PySem.W.keepIn K (.ref T.f_ends_of) = true := T.U_ends_of.kp
theorem Txt.k_check_ask {K : PySem.W.Frag} {mg : Str → Option Value} (T : Txt K mg) : PySem.W.keepIn K (.ref T.f_check_ask) = true := T.U_check_ask.kp
theorem Txt.k_is_gap_row {K : PySem.W.Frag} {mg : Str → Option Value} (T : Txt K mg) : PySem.W.keepIn K (.ref T.f_is_gap_row) = true := T.U_is_gap_row.kp
theorem Txt.k_rows_in {K : PySem.W.Frag} {mg : Str → Option Value} (T : Txt K mg) : PySem.W.keepIn K (.ref T.f_rows_in) = true := T.U_rows_in.kp
theorem Txt.k_many_gaps {K : PySem.W.Frag} {mg : Str → Option Value} (T : Txt K mg) : PySem.W.keepIn K (.ref T.f_many_gaps) = true := T.U_many_gaps.kp
theorem Txt.k_filled {K : PySem.W.Frag} {mg : Str → Option Value} (T : Txt K mg) : PySem.W.keepIn K (.ref T.f_filled) = true := T.U_filled.kp
theorem Txt.k_is_fit {K : PySem.W.Frag} {mg : Str → Option Value} (T : Txt K mg) : PySem.W.keepIn K (.ref T.f_is_fit) = true := T.U_is_fit.kp
theorem Txt.k_certificate_for {K : PySem.W.Frag} {mg : Str → Option Value} (T : Txt K mg) : PySem.W.keepIn K (.ref T.f_certificate_for) = true := T.U_certificate_for.kp
theorem Txt.k_ends_of_sets {K : PySem.W.Frag} {mg : Str → Option Value} (T : Txt K mg) : PySem.W.keepIn K (.ref T.f_ends_of_sets) = true := T.U_ends_of_sets.kp
theorem Txt.k_ends_of_products {K : PySem.W.Frag} {mg : Str → Option Value} (T : Txt K mg) : PySem.W.keepIn K (.ref T.f_ends_of_products) = true := T.U_ends_of_products.kp
theorem Txt.k_l_deck {K : PySem.W.Frag} {mg : Str → Option Value} (T : Txt K mg) : PySem.W.keepIn K (.ref T.f_l_deck) = true := T.U_l_deck.kp
theorem Txt.k_l_draw {K : PySem.W.Frag} {mg : Str → Option Value} (T : Txt K mg) : PySem.W.keepIn K (.ref T.f_l_draw) = true := T.U_l_draw.kp
theorem Txt.k_l_pick {K : PySem.W.Frag} {mg : Str → Option Value} (T : Txt K mg) : PySem.W.keepIn K (.ref T.f_l_pick) = true := T.U_l_pick.kp
theorem Txt.k_l_choose {K : PySem.W.Frag} {mg : Str → Option Value} (T : Txt K mg) : PySem.W.keepIn K (.ref T.f_l_choose) = true := T.U_l_choose.kp
theorem Txt.k_l_greatest {K : PySem.W.Frag} {mg : Str → Option Value} (T : Txt K mg) : PySem.W.keepIn K (.ref T.f_l_greatest) = true := T.U_l_greatest.kp
theorem Txt.k_l_cascade {K : PySem.W.Frag} {mg : Str → Option Value} (T : Txt K mg) : PySem.W.keepIn K (.ref T.f_l_cascade) = true := T.U_l_cascade.kp
theorem Txt.k_l_lower_sets {K : PySem.W.Frag} {mg : Str → Option Value} (T : Txt K mg) : PySem.W.keepIn K (.ref T.f_l_lower_sets) = true := T.U_l_lower_sets.kp
theorem Txt.k_l_upper_products {K : PySem.W.Frag} {mg : Str → Option Value} (T : Txt K mg) : PySem.W.keepIn K (.ref T.f_l_upper_products) = true := T.U_l_upper_products.kp
theorem Txt.k_l_upper_sets {K : PySem.W.Frag} {mg : Str → Option Value} (T : Txt K mg) : PySem.W.keepIn K (.ref T.f_l_upper_sets) = true := T.U_l_upper_sets.kp
theorem Txt.k_l_lower_products {K : PySem.W.Frag} {mg : Str → Option Value} (T : Txt K mg) : PySem.W.keepIn K (.ref T.f_l_lower_products) = true := T.U_l_lower_products.kp
theorem Txt.k_l_row {K : PySem.W.Frag} {mg : Str → Option Value} (T : Txt K mg) : PySem.W.keepIn K (.ref T.f_l_row) = true := T.U_l_row.kp
theorem Txt.k_l_ends {K : PySem.W.Frag} {mg : Str → Option Value} (T : Txt K mg) : PySem.W.keepIn K (.ref T.f_l_ends) = true := T.U_l_ends.kp
theorem Txt.k_l_is_right {K : PySem.W.Frag} {mg : Str → Option Value} (T : Txt K mg) : PySem.W.keepIn K (.ref T.f_l_is_right) = true := T.U_l_is_right.kp
theorem Txt.k_l_are_numbers_right {K : PySem.W.Frag} {mg : Str → Option Value} (T : Txt K mg) : PySem.W.keepIn K (.ref T.f_l_are_numbers_right) = true := T.U_l_are_numbers_right.kp
theorem Txt.k_l_is_refused {K : PySem.W.Frag} {mg : Str → Option Value} (T : Txt K mg) : PySem.W.keepIn K (.ref T.f_l_is_refused) = true := T.U_l_is_refused.kp
theorem Txt.k_law {K : PySem.W.Frag} {mg : Str → Option Value} (T : Txt K mg) : PySem.W.keepIn K (.ref T.f_law) = true := T.U_law.kp
end K88

namespace K88
open PySem PySem.Spec PyProof.Rows L2 Hr HrM Evl HrE_thing LamX
theorem small1 {a : V} : ([a] : List V).length ≤ sizeLine := by show 1 ≤ sizeLine; decide
theorem small2 {a b : V} : ([a, b] : List V).length ≤ sizeLine := by show 2 ≤ sizeLine; decide
theorem small3 {a b c : V} : ([a, b, c] : List V).length ≤ sizeLine := by show 3 ≤ sizeLine; decide
/-- the tables of code objects of this law -/
def lamT (P1 : Addr) : List (Addr × Str) := [(P1, (("greatest_top" : Str) ++ ".<locals>.") ++ "<lambda>")]
abbrev tabs {K : PySem.W.Frag} {mg : Str → Option Value} (T : Txt K mg) : List (Addr × Str) := lamT T.P_greatest_top
section
variable {K : PySem.W.Frag} {mg : Str → Option Value} (T : Txt K mg)
theorem hm_top : (T.P_greatest_top, (("greatest_top" : Str) ++ ".<locals>.") ++ "<lambda>") ∈ tabs T := .head _
theorem hu_top : ∀ p ∈ tabs T, p.1 = T.P_greatest_top → p.2 = (("greatest_top" : Str) ++ ".<locals>.") ++ "<lambda>"
  | _, .head _, _ => rfl
end
end K88

namespace K88
open PySem PySem.Spec PyProof.Rows L2 Hr HrM Evl HrE_thing LamX RZ
section
variable {P : Program} {w : World} {K : PySem.W.Frag} {mg : Str → Option Value} {base : Heap}
theorem FnOk.never {CX : CXT} {k : Nat} {f : Addr} {fd : FuncData} {ps : List Str} : FnOk P w K mg base CX k f fd ps fun _ _ _ _ => False :=
  ⟨fun _ _ _ _ h => h.elim, fun _ _ _ _ _ _ _ _ _ _ _ _ _ h => h.elim⟩
def sp_isint : Sp := fun vs H Q _ => ∃ (v : V) (d : PyData), vs = [v] ∧ Dx H v d ∧ Q (.bl (intD d)) H
theorem ok_is_integer (T : Txt K mg) : FnOk P w K mg base CX0 1 T.f_is_integer T.d_is_integer ["thing"] sp_isint := by
  refine T.U_is_integer.ok sc_is_integer (fun vs H Q E h => ?_) (fun cdv A outer s H vs Q E hr h => ?_)
  · obtain ⟨_, _, rfl, _⟩ := h
    rfl
  · obtain ⟨v, d, rfl, hd, q⟩ := h
    refine ⟨_, (pss_one (ps_ret (pe_and (pe_callB call_isi (by rfl) T.n_isinstance (by decide +kernel) (pa_cons (pv 0) (pa_cons (pe_bltn (v := .ty "int") (u := .type "int") (by rfl) T.n_int (by decide +kernel) rfl) pa_nil))) (pe_one (pe_not (pe_callB call_isi (by rfl) T.n_isinstance (by decide +kernel) (pa_cons (pv 0) (pa_cons (pe_bltn (v := .ty "bool") (u := .type "bool") (by rfl) T.n_bool (by decide +kernel) rfl) pa_nil)))))))), ?_⟩
    obtain ⟨nm, ty, k1, k2, k3⟩ := hd.kit (K := K)
    refine ⟨_, rfl, _, _, _, _, intD d || blD d, rfl, .ty "int", ty, kit_ty k1, _, rfl, ?_⟩
    cases d with
    | int n => exact iteT ⟨_, rfl, _, _, _, _, false, rfl, .ty "bool", ty, kit_ty k2, _, rfl, q⟩
    | bool b => exact iteT ⟨_, rfl, _, _, _, _, true, rfl, .ty "bool", ty, kit_ty k2, _, rfl, q⟩
    | none => exact iteF q
    | str x => exact iteF q
    | list ds => exact iteF q
    | tuple ds => exact iteF q
    | dict es => exact iteF q
def sp_is_integer_from : Sp := fun vs H Q _ => ∃ (v : V) (d : PyData) (l : Int), vs = [v, .int l] ∧ Dx H v d ∧ Q (.bl (fromD l d)) H
theorem ok_is_integer_from (T : Txt K mg) : FnOk P w K mg base CX0 2 T.f_is_integer_from T.d_is_integer_from ["thing", "least"] sp_is_integer_from := by
  have F_is_integer := ok_is_integer (P := P) (w := w) (base := base) T
  refine T.U_is_integer_from.ok sc_is_integer_from (fun vs H Q E h => ?_) (fun cdv A outer s H vs Q E hr h => ?_)
  · obtain ⟨_, _, _, rfl, _⟩ := h
    rfl
  · obtain ⟨v, d, l, rfl, hd, q⟩ := h
    refine ⟨_, (pss_one (ps_ret (pe_and (pe_call F_is_integer (hr.mono (by decide)) (by rfl) T.g_is_integer T.k_is_integer T.b_is_integer .nil pass0 (pa_cons (pv 0) pa_nil)) (pe_one (pe_cmpR op_ge (pv 0) (pv 1) (nomark _)))))), ?_⟩
    refine ⟨_, rfl, v, d, rfl, hd, intD d, rfl, ?_⟩
    cases hd with
    | int n => exact iteT ⟨_, rfl, _, rfl, _, _, rfl, rfl, q⟩
    | bl b => exact iteF q
    | non => exact iteF q
    | str x => exact iteF q
    | lst _ _ => exact iteF q
    | tup _ _ => exact iteF q
    | dct _ _ => exact iteF q
def sp_are_integers_from : Sp := fun vs H Q _ => ∃ (v : V) (d : PyData) (l : Int), vs = [v, .int l] ∧ Dx H v d ∧ (itemsD d).length ≤ 1000 ∧ RetV (.bl (fromsD l d)) H Q
theorem ok_are_integers_from (T : Txt K mg) : FnOk P w K mg base CX0 3 T.f_are_integers_from T.d_are_integers_from ["thing", "least"] sp_are_integers_from := by
  have F_is_integer_from := ok_is_integer_from (P := P) (w := w) (base := base) T
  refine T.U_are_integers_from.ok sc_are_integers_from (fun vs H Q E h => ?_) (fun cdv A outer s H vs Q E hr h => ?_)
  · obtain ⟨_, _, _, rfl, _⟩ := h
    rfl
  · obtain ⟨v, d, l, rfl, hd, hl, q⟩ := h
    refine ⟨_, (pss_one (ps_ret (pe_and (pe_callB call_isi (by rfl) T.n_isinstance (by decide +kernel) (pa_cons (pv 0) (pa_cons (pe_bltn (v := .ty "tuple") (u := .type "tuple") (by rfl) T.n_tuple (by decide +kernel) rfl) pa_nil))) (pe_one (pe_callB (cr_all rfl) (by rfl) T.n_all (by decide +kernel) (pa_cons (pe_lc (own := [("part", 2)]) (g := gName 2) (tt := tYes) rfl sc_are_integers_from.nd (pi_tup (pv 0)) (blkOk_by (own := [("part", 2)]) (N := ["thing", "least", "part"]) (sc := defScope s_are_integers_from) (by decide +kernel)) (fun _ _ _ _ _ => pg_name (i := 2) sc_are_integers_from.nd rfl (Or.inl rfl)) (fun _ _ _ _ _ => pts_nil) (fun _ _ _ _ _ => (pe_call F_is_integer_from (hr.mono (by decide)) (by rfl) T.g_is_integer_from T.k_is_integer_from T.b_is_integer_from .nil pass0 (pa_cons (pv 2) (pa_cons (pv 1) pa_nil))))) pa_nil)))))), ?_⟩
    obtain ⟨nm, ty, k1, k2, k3⟩ := hd.kit (K := K)
    refine ⟨_, rfl, _, _, _, _, tupD d, rfl, .ty "tuple", ty, kit_ty k3, _, rfl, ?_⟩
    cases hd with
    | int n => exact iteF (q H (Ex.refl H))
    | bl b => exact iteF (q H (Ex.refl H))
    | non => exact iteF (q H (Ex.refl H))
    | str x => exact iteF (q H (Ex.refl H))
    | lst _ _ => exact iteF (q H (Ex.refl H))
    | dct _ _ => exact iteF (q H (Ex.refl H))
    | @tup a xs ds ha hA =>
      have hl' : ds.length ≤ 1000 := hl
      refine iteT (r_cb (r_arg ?_))
      have hlen := hA.len
      refine el_lcT (K := K) ha (ev_var rfl) (fun _ => true) (fun i => .bl (fromD l (ds.getD i .none))) (by omega) ?_ H (Ex.refl H) _ ?_
      · intro i x H2 e hx
        obtain ⟨d, hd, td⟩ := hA.at hx
        refine ⟨[some (.ref a), some (.int l), some x], fun k hk => hk, rfl, et_yes, fun _ => ?_⟩
        intro H3 e3 Q3 q3
        have e5 : ds.getD i .none = d := by rw [List.getD_eq_getElem?_getD, hd]; rfl
        rw [e5] at q3
        exact ⟨_, rfl, _, rfl, x, d, l, rfl, td.more (e.trans e3), q3 H3 (Ex.refl H3)⟩
      · intro p H2 np e hp
        rw [given_all, bools] at hp
        refine ⟨p, _, rfl, SqL.of hp, ?_⟩
        rw [hlen, all_get (fromD l) ds _ fun i x hx => by rw [List.getD_eq_getElem?_getD, hx]; rfl]
        exact q H2 e
/-- such values: counts -/
def countsB (d : PyData) : Bool := fromsD 1 d && decide ((itemsD d).length ≤ 16)
def sp_is_counts : Sp := fun vs H Q _ => ∃ (v : V) (d : PyData), vs = [v] ∧ Dx H v d ∧ (itemsD d).length ≤ 1000 ∧ RetV (.bl (countsB d)) H Q
theorem ok_is_counts (T : Txt K mg) : FnOk P w K mg base CX0 4 T.f_is_counts T.d_is_counts ["thing"] sp_is_counts := by
  have F_are_integers_from := ok_are_integers_from (P := P) (w := w) (base := base) T
  refine T.U_is_counts.ok sc_is_counts (fun vs H Q E h => ?_) (fun cdv A outer s H vs Q E hr h => ?_)
  · obtain ⟨_, _, rfl, _⟩ := h
    rfl
  · obtain ⟨v, d, rfl, hd, hl, q⟩ := h
    refine ⟨_, (pss_one (ps_ret (pe_and (pe_call F_are_integers_from (hr.mono (by decide)) (by rfl) T.g_are_integers_from T.k_are_integers_from T.b_are_integers_from .nil pass0 (pa_cons (pv 0) (pa_cons pe_int pa_nil))) (pe_one (pe_cmpR op_le (pe_callB call_len_seq (by rfl) T.n_len PySem.boot_len (pa_cons (pv 0) pa_nil)) (pe_glob (v := .int 16) rfl T.c_MOST_COUNTS ⟨_, rfl⟩) (nomark _)))))), ?_⟩
    refine ⟨_, rfl, v, d, 1, rfl, hd, hl, fun H2 e2 => ⟨fromsD 1 d, rfl, ?_⟩⟩
    cases hf : fromsD 1 d with
    | false =>
      refine iteF ?_
      have : countsB d = false := by unfold countsB; rw [hf]; rfl
      rw [this] at q
      exact q H2 e2
    | true =>
      obtain e := intsD_vals (froms_ints hf)
      cases hd with
      | @tup a xs ds ha hA =>
        refine iteT ⟨_, rfl, a, _, rfl, .inr (SqT.of (e2 _ _ ha)), _, _, rfl, rfl, ?_⟩
        refine q_bl (Q := Q) ?_ (q H2 e2)
        unfold countsB
        rw [hf, hA.len]
        show decide ((ds.length : Int) ≤ 16) = (true && decide (ds.length ≤ 16))
        rw [Bool.true_and]
        exact decide_eq_decide.mpr (by omega)
      | int n => cases e
      | bl b => cases e
      | non => cases e
      | str x => cases e
      | lst _ _ => cases e
      | dct _ _ => cases e
/-- right counts go through -/
def sp_cc : Sp := fun vs H Q _ => ∃ (v : V) (d : PyData), vs = [v] ∧ Dx H v d ∧ (itemsD d).length ≤ 1000 ∧ countsB d = true ∧ RetV .non H Q
theorem ok_check_counts (T : Txt K mg) : FnOk P w K mg base CX0 5 T.f_check_counts T.d_check_counts ["counts"] sp_cc := by
  have F_is_counts := ok_is_counts (P := P) (w := w) (base := base) T
  refine T.U_check_counts.ok sc_check_counts (fun vs H Q E h => ?_) (fun cdv A outer s H vs Q E hr h => ?_)
  · obtain ⟨_, _, rfl, _⟩ := h
    rfl
  · obtain ⟨v, d, rfl, hd, hl, hc, q⟩ := h
    refine ⟨_, (pss_one (ps_if (pt_not (pt_val (pe_call F_is_counts (hr.mono (by decide)) (by rfl) T.g_is_counts T.k_is_counts T.b_is_counts .nil pass0 (pa_cons (pv 0) pa_nil)))) (pss_one ps_never) pss_nil)), ?_⟩
    refine ⟨_, rfl, v, d, rfl, hd, hl, fun H1 e1 => ⟨_, rfl, ?_⟩⟩
    rw [hc]
    exact iteF (q H1 e1)
def sp_check_size : Sp := fun vs H Q _ => ∃ n : Int, vs = [.int n] ∧ 1 ≤ n ∧ Q .non H
theorem ok_check_size (T : Txt K mg) : FnOk P w K mg base CX0 3 T.f_check_size T.d_check_size ["size"] sp_check_size := by
  have F_is_integer_from := ok_is_integer_from (P := P) (w := w) (base := base) T
  refine T.U_check_size.ok sc_check_size (fun vs H Q E h => ?_) (fun cdv A outer s H vs Q E hr h => ?_)
  · obtain ⟨n, rfl, _⟩ := h
    rfl
  · obtain ⟨n, rfl, hn, q⟩ := h
    refine ⟨_, (pss_one (ps_if (pt_not (pt_val (pe_call F_is_integer_from (hr.mono (by decide)) (by rfl) T.g_is_integer_from T.k_is_integer_from T.b_is_integer_from .nil pass0 (pa_cons (pv 0) (pa_cons pe_int pa_nil))))) (pss_one ps_never) pss_nil)), ?_⟩
    refine ⟨_, rfl, .int n, .int n, 1, rfl, .int n, _, rfl, ?_⟩
    rw [show fromD 1 (.int n) = true from decide_eq_true hn]
    exact iteF q
def sp_check_number : Sp := fun vs H Q _ => ∃ N : Nat, vs = [.int (N : Int)] ∧ Q .non H
theorem ok_check_number (T : Txt K mg) : FnOk P w K mg base CX0 3 T.f_check_number T.d_check_number ["number"] sp_check_number := by
  have F_is_integer_from := ok_is_integer_from (P := P) (w := w) (base := base) T
  refine T.U_check_number.ok sc_check_number (fun vs H Q E h => ?_) (fun cdv A outer s H vs Q E hr h => ?_)
  · obtain ⟨n, rfl, _⟩ := h
    rfl
  · obtain ⟨N, rfl, q⟩ := h
    refine ⟨_, (pss_one (ps_if (pt_not (pt_val (pe_call F_is_integer_from (hr.mono (by decide)) (by rfl) T.g_is_integer_from T.k_is_integer_from T.b_is_integer_from .nil pass0 (pa_cons (pv 0) (pa_cons pe_int pa_nil))))) (pss_one ps_never) pss_nil)), ?_⟩
    refine ⟨_, rfl, .int N, .int N, 0, rfl, .int _, _, rfl, ?_⟩
    rw [show fromD 0 (.int (N : Int)) = true from decide_eq_true (Int.natCast_nonneg N)]
    exact iteF q
/-- a number is just itself -/
def sp_just : Sp := fun vs H Q _ => ∃ i : Int, vs = [.int i, .int i] ∧ RetV (.bl true) H Q
theorem ok_is_just (T : Txt K mg) : FnOk P w K mg base CX0 2 T.f_is_just T.d_is_just ["thing", "right"] sp_just := by
  have F_is_just : FnOk P w K mg base CX0 1 T.f_is_just T.d_is_just ["thing", "right"] _ := FnOk.never
  refine T.U_is_just.ok sc_is_just (fun vs H Q E h => ?_) (fun cdv A outer s H vs Q E hr h => ?_)
  · obtain ⟨_, rfl, _⟩ := h
    rfl
  · obtain ⟨i, rfl, q⟩ := h
    refine ⟨_, (pss_cons (ps_if (pt_val (pe_callB call_isi (by rfl) T.n_isinstance (by decide +kernel) (pa_cons (pv 1) (pa_cons (pe_bltn (v := .ty "tuple") (u := .type "tuple") (by rfl) T.n_tuple (by decide +kernel) rfl) pa_nil)))) (pss_cons (ps_if (PW.pt (pw_or (pt_not (pt_val (pe_callB call_isi (by rfl) T.n_isinstance (by decide +kernel) (pa_cons (pv 0) (pa_cons (pe_bltn (v := .ty "tuple") (u := .type "tuple") (by rfl) T.n_tuple (by decide +kernel) rfl) pa_nil))))) (pw_or1 (pt_cmpR op_ne (pe_callB call_len_seq (by rfl) T.n_len PySem.boot_len (pa_cons (pv 0) pa_nil)) (pe_callB call_len_seq (by rfl) T.n_len PySem.boot_len (pa_cons (pv 1) pa_nil)) (nomark _))))) (pss_one (ps_ret pe_bl)) pss_nil)
  (pss_one (ps_ret (pe_callB (cr_all rfl) (by rfl) T.n_all (by decide +kernel) (pa_cons (pe_lc (own := [("part", 2), ("other", 3)]) (g := gTup K 2 (gCons (gName 2) (gCons (gName 3) (gNil)))) (tt := tYes) rfl sc_is_just.nd (pi_zipA (by rfl) T.n_zip (pa_cons (pv 0) (pa_cons (pv 1) pa_nil))) (blkOk_by (own := [("part", 2), ("other", 3)]) (N := ["thing", "right", "part", "other"]) (sc := defScope s_is_just) (by decide +kernel)) (fun _ _ _ _ _ => pg_tup rfl (pgs_cons (pg_name (i := 2) sc_is_just.nd rfl (Or.inl rfl)) (pgs_cons (pg_name (i := 3) sc_is_just.nd rfl (Or.inl rfl)) pgs_nil))) (fun _ _ _ _ _ => pts_nil) (fun _ _ _ _ _ => (pe_call F_is_just (hr.mono (by decide)) (by rfl) T.g_is_just T.k_is_just T.b_is_just .nil pass0 (pa_cons (pv 2) (pa_cons (pv 3) pa_nil))))) pa_nil))))) pss_nil)
  (pss_one (ps_ret (pe_and (pe_not (pe_callB call_isi (by rfl) T.n_isinstance (by decide +kernel) (pa_cons (pv 0) (pa_cons (pe_bltn (v := .ty "bool") (u := .type "bool") (by rfl) T.n_bool (by decide +kernel) rfl) pa_nil)))) (pe_one (pe_cmpR op_eq (pv 0) (pv 1) (nomark _))))))), ?_⟩
    refine ⟨_, rfl, _, _, _, _, false, rfl, .ty "tuple", .base (.int i), kit_ty (by decide +kernel), false, rfl, iteF ?_⟩
    refine ⟨_, rfl, _, _, _, _, false, rfl, .ty "bool", .base (.int i), kit_ty (by decide +kernel), _, rfl, ?_⟩
    exact ⟨true, rfl, iteT ⟨_, rfl, _, rfl, rfl, q_bl (Q := Q) (decide_eq_true rfl) (q H (Ex.refl H))⟩⟩
end
end K88

namespace K88
open PySem PySem.Spec PyProof.Rows L2 Hr HrM Evl LamX
section
variable {P : Program} {w : World} {K : PySem.W.Frag} {mg : Str → Option Value} {base : Heap}
/-! the greatest top -/
theorem fromD_nat (N : Nat) : fromD 0 (.int (N : Int)) = true := by
  show decide ((0 : Int) ≤ (N : Int)) = true
  exact decide_eq_true (Int.natCast_nonneg N)
theorem ch_more {s : Nat} (hs : 1 ≤ s) : ∀ l : Nat, l + 1 ≤ ch (s + l) s
  | 0 => by
    show 1 ≤ ch s s
    rw [ch_self]
    exact Nat.le_refl 1
  | l + 1 => by
    have ih := ch_more hs l
    obtain ⟨t, rfl⟩ : ∃ t, s = t + 1 := ⟨s - 1, by omega⟩
    have h1 := ch_pos (n := t + 1 + l) (k := t) (by omega)
    have e := ch_succ (t + 1 + l) t
    have e2 : t + 1 + (l + 1) = t + 1 + l + 1 := by omega
    rw [e2, e]
    omega
theorem ccomb {a b m : Nat} (h : a < 2 ^ m) (hb : b ≤ 20) (hm : 0 < m) (hm2 : m ≤ 5000) : CComb (a : Int) (b : Int) :=
  ⟨by omega, by omega, by omega, by rw [comb_nat]; exact ch_bits h hb hm hm2⟩
theorem comb_add (s h : Nat) : PySem.W.mcComb ((s : Int) + (h : Int)) (s : Int) = ((ch (s + h) s : Nat) : Int) := by
  rw [← Int.natCast_add]
  exact comb_nat _ _
theorem ccomb_add {s h N : Nat} (hs : s ≤ 17) (hN : N < 2 ^ 1900) (hh : h ≤ 2 * N + 2) : CComb ((s : Int) + (h : Int)) (s : Int) := by
  rw [← Int.natCast_add]
  refine ccomb (m := 1903) ?_ (by omega) (by decide) (by decide)
  have e : 2 ^ 1903 = 8 * 2 ^ 1900 := by exact Nat.pow_add 2 3 1900
  have h2 : 2 ^ 10 ≤ 2 ^ 1900 := Nat.pow_le_pow_right (by decide) (by decide)
  rw [e]
  generalize 2 ^ 1900 = z at *
  omega
/-- the greatest place by a growing count G from s on, the count told by tl -/
def TTw : V → V → (V → Hp → VK → Prop) → Hp → VK → Prop := fun v1 v2 tl H Q => ∃ (N s : Nat) (G : Nat → Nat), v1 = .int N ∧ v2 = .int s ∧ 1 ≤ N ∧ G 0 ≤ N ∧ (∀ x, x + 1 ≤ G x) ∧
  (∀ x, x ≤ 2 * N + 2 → ∀ Q' : VK, Q' (.int ((G x : Nat) : Int)) H → tl (.int ((s : Int) + (x : Int))) H Q') ∧ ∀ l : Nat, G l ≤ N → N < G (l + 1) → Q (.int ((s : Int) + (l : Int))) H
theorem within_to {X : Cx} (T : Txt X.K X.mg) (g : Addr) (cdg : Value) (q : Str) : Gives1 X ["number", "least", "count_at", "low", "high", "middle"] "greatest_within" (defScope s_greatest_within) g cdg (defBody s_greatest_within) "count_at" q TTw := by
  intro f c' s0 H Q v1 v2 tl act hr hc h
  obtain ⟨N, s, G, rfl, rfl, hN1, hG0, hG, htl, q⟩ := h
  refine ⟨_, (pss_cons (ps_set (i := 3) sc_greatest_within.nd rfl (.inl rfl) pe_int)
  (pss_cons (ps_set (i := 4) sc_greatest_within.nd rfl (.inl rfl) pe_int)
  (pss_cons (ps_while PassesOwn.never (pt_cmpR op_le (act _ _ _ _ (pa_cons (pe_op op_add (pv 1) (pv 4)) pa_nil) (fun _ => rfl)) (pv 0) (nomark _)) (pss_cons (ps_set (i := 3) sc_greatest_within.nd rfl (.inl rfl) (pv 4))
  (pss_one (ps_set (i := 4) sc_greatest_within.nd rfl (.inl rfl) (pe_op op_mul pe_int (pv 4))))))
  (pss_cons (ps_while PassesOwn.never (pt_cmpR op_gt (pe_op op_sub (pv 4) (pv 3)) pe_int (nomark _)) (pss_cons (ps_set (i := 5) sc_greatest_within.nd rfl (.inl rfl) (pe_op op_fdivN (pe_op op_add (pv 3) (pv 4)) pe_int))
  (pss_one (ps_if (pt_cmpR op_le (act _ _ _ _ (pa_cons (pe_op op_add (pv 1) (pv 5)) pa_nil) (fun _ => rfl)) (pv 0) (nomark _)) (pss_one (ps_set (i := 3) sc_greatest_within.nd rfl (.inl rfl) (pv 5))) (pss_one (ps_set (i := 4) sc_greatest_within.nd rfl (.inl rfl) (pv 5)))))))
  (pss_one (ps_ret (pe_op op_add (pv 1) (pv 3)))))))), ?_⟩
  refine ⟨fun m σ H' => ∃ l h : Nat, σ = [some (.int N), some (.int s), some (.ref f), some (.int l), some (.int h), none] ∧ H' = H ∧ m = 2 * N + 1 - h ∧ 1 ≤ h ∧ h ≤ 2 * N ∧ l < h ∧ G l ≤ N,
    ⟨_, 0, 1, rfl, rfl, rfl, by omega, by omega, by omega, hG0⟩, ?_⟩
  rintro m σ H' ⟨l, h, rfl, rfl, rfl, h1, h2, h3, h4⟩
  refine ⟨rfl, _, rfl, _, rfl, _, _, rfl, rfl, _, rfl, hc, htl h (by omega) _ ?_⟩
  refine ⟨_, rfl, _, _, rfl, rfl, _, rfl, ite2 (fun e => ?_) (fun e => ?_)⟩
  · have e' : G h ≤ N := by have := of_decide_eq_true e; omega
    have hm := hG h
    refine ⟨fun σ' H'' => ∃ l' h' : Nat, σ' = [some (.int N), some (.int s), some (.ref f), some (.int l'), some (.int h'), none] ∧ H'' = H' ∧ 1 ≤ h' ∧ h' ≤ 2 * N ∧ l' < h' ∧ G l' ≤ N ∧ h < h', ?_, ?_⟩
    · rintro σ' H'' ⟨l', h', rfl, rfl, g1, g2, g3, g4, g5⟩
      exact ⟨2 * N + 1 - h', by omega, l', h', rfl, rfl, rfl, g1, g2, g3, g4⟩
    · refine ⟨_, rfl, _, rfl, _, _, rfl, rfl, .inl ⟨by decide, by decide⟩, ?_⟩
      exact ⟨h, 2 * h, rfl, rfl, by omega, by omega, by omega, e', by omega⟩
  · have e' : N < G h := by
      by_cases z : G h ≤ N
      · exact absurd (decide_eq_true (by omega)) e
      · omega
    refine ⟨fun m σ H'' => ∃ (l' h' : Nat) (y : Option V), σ = [some (.int N), some (.int s), some (.ref f), some (.int l'), some (.int h'), y] ∧ H'' = H' ∧ m = h' - l' ∧ l' < h' ∧ h' ≤ 2 * N ∧ G l' ≤ N ∧ N < G h',
      ⟨_, l, h, none, rfl, rfl, rfl, h3, h2, h4, e'⟩, ?_⟩
    rintro m σ H'' ⟨l, h, y, rfl, rfl, rfl, g1, g2, g3, g4⟩
    refine ⟨_, rfl, _, rfl, _, _, rfl, rfl, _, _, rfl, rfl, _, rfl, ite2 (fun e => ?_) (fun e => ?_)⟩
    · have e2 : 1 < h - l := by have := of_decide_eq_true e; omega
      refine ⟨fun σ' H2 => ∃ (l' h' : Nat) (y : Option V), σ' = [some (.int N), some (.int s), some (.ref f), some (.int l'), some (.int h'), y] ∧ H2 = H'' ∧ l' < h' ∧ h' ≤ 2 * N ∧ G l' ≤ N ∧ N < G h' ∧ h' - l' < h - l, ?_, ?_⟩
      · rintro σ' H2 ⟨l', h', y', rfl, rfl, k1, k2, k3, k4, k5⟩
        exact ⟨h' - l', k5, l', h', y', rfl, rfl, rfl, k1, k2, k3, k4⟩
      · obtain ⟨c, hcc, hc1, hc2⟩ : ∃ c : Nat, ((l : Int) + (h : Int)).fdiv 2 = (c : Int) ∧ l < c ∧ c < h := by
          rw [Int.fdiv_eq_ediv_of_nonneg _ (by decide)]
          exact ⟨(l + h) / 2, by omega, by omega, by omega⟩
        refine ⟨_, rfl, _, rfl, _, _, rfl, rfl, _, _, rfl, rfl, ⟨by decide, by decide⟩, ?_⟩
        simp only [hcc]
        refine ⟨rfl, _, rfl, _, rfl, _, _, rfl, rfl, _, rfl, hc, htl c (by omega) _ ?_⟩
        refine ⟨_, rfl, _, _, rfl, rfl, _, rfl, ite2 (fun e3 => ?_) (fun e3 => ?_)⟩
        · have e4 : G c ≤ N := by have := of_decide_eq_true e3; omega
          exact ⟨_, rfl, c, h, _, rfl, rfl, hc2, g2, e4, g4, by omega⟩
        · have e4 : N < G c := by
            by_cases z : G c ≤ N
            · exact absurd (decide_eq_true (by omega)) e3
            · omega
          exact ⟨_, rfl, l, c, _, rfl, rfl, hc1, by omega, g3, e4, by omega⟩
    · have e2 : h = l + 1 := by
        by_cases z : 1 < h - l
        · exact absurd (decide_eq_true (by omega)) e
        · omega
      subst e2
      exact ⟨_, rfl, _, rfl, _, _, rfl, rfl, q l g3 g4⟩
theorem pe_within {X : Cx} (T : Txt X.K X.mg) {TL : List (Addr × Str)} {c P : Addr} {b : Str} {params : Arguments} {body e1 e2 : Expr} {scope : Scope} {t1 t2 tb : TE} {p lpos pos : Pos} (hm : (P, X.env.qual ++ "<lambda>") ∈ TL) (hu : ∀ p ∈ TL, p.1 = P → p.2 = X.env.qual ++ "<lambda>") (TB : TabB X.base X.mg c P) (hcode : X.env.code = .ref c) (hr : Room 2 X.A) (hg : Gl X "greatest_within") (L : LamS1 X.env.scope scope b) (hb : b ∉ X.N) (hdef : defaultsOf params X.env = ([], []))
    (h1 : PE X e1 t1) (h2 : PE X e2 t2) (hbind : ∀ (q : Str) (cl : List (Str × Addr)) (pm cv ctv u : Value), bindArgs (PySem.W.kla_fn "<lambda>" q params body scope cl pm cv ctv) ⟨[u], []⟩ = pure [(b, u)])
    (hbody : ∀ (A : Around) (outer : List Env) (s : Shared) (H : Hp) (E : XK) (f c' : Addr), Room 0 (A.deeper (lamEnv X scope s.heap.objs.size f c')) → PE (lamCx1 X A outer s H E scope f c' b) body tb)
    (he : starEach [e1, e2, .Lambda params body scope lpos] X.env = (false, eval e1 X.env) :: starEach [e2, .Lambda params body scope lpos] X.env := by rfl)
    (he2 : starEach [e2, .Lambda params body scope lpos] X.env = (false, eval e2 X.env) :: starEach [.Lambda params body scope lpos] X.env := by rfl)
    (hpl : (backTo pos (starEach [e2, .Lambda params body scope lpos] X.env)).any (·.1) = false := by rfl) :
    PE X (.Call (.Name "greatest_within" p) [e1, e2, .Lambda params body scope lpos] [] pos) (tLam1 TL TTw t1 t2 tb) := by
  obtain ⟨oc, od, kV, doc, pm, an, cdv, ct, osl, efd, lk, hcd⟩ := T.U_greatest_within.ex
  have hbg := T.b_greatest_within
  rw [efd] at hbg lk
  exact pe_lamcall1 (k := 0) hg T.g_greatest_within T.k_greatest_within lk hcd hbg sc_greatest_within rfl (.inl rfl) (within_to T _ _ _) h1 h2 TB hcode hm hu hr L hb hdef hbind hbody he he2 hpl
def sp_greatest_top (TL : List (Addr × Str)) : Sp := fun vs H Q _ => ∃ N s : Nat, vs = [.int N, .int s] ∧ 1 ≤ N ∧ N < 2 ^ 1900 ∧ 1 ≤ s ∧ s ≤ 17 ∧ Tabs (TL) H ∧ ∀ a : Nat, ch a s ≤ N → N < ch (a + 1) s → RetVk (TL) (.int a) H Q
theorem ok_greatest_top (T : Txt K mg) (TB : TabB base mg T.c_greatest_top T.P_greatest_top) : FnOk P w K mg base CX0 3 T.f_greatest_top T.d_greatest_top ["number", "size"] (sp_greatest_top (tabs T)) := by
  refine okC T.U_greatest_top sc_greatest_top (fun vs H Q E h => ?_) (fun cdv A outer s H vs Q E hcd hr h => ?_)
  · obtain ⟨n, l, rfl, _⟩ := h
    rfl
  · obtain ⟨N, s, rfl, hN1, hN, hs1, hs, hT, q⟩ := h
    have hcode : cdv = .ref T.c_greatest_top := hcd.symm.trans T.cd_greatest_top
    have hr' := hr
    have hm := hm_top T
    have hu := hu_top T
    refine ⟨_, (pss_one (ps_ret (pe_within T hm hu TB hcode hr' (by rfl) (lam1_by (sc := defScope s_greatest_top) (by decide +kernel)) (show ("top" : Str) ∉ (["number", "size"] : List Str) by decide) rfl (pv 0) (pv 1) (fun _ _ _ _ _ _ => rfl) (fun A outer s H E f c' hr2 => pe_callBfun cr_comb (by rfl) T.comb (pa_cons (pe_var (i := 0) rfl (.inl rfl) (by decide) (by decide)) (pa_cons (pe_var (i := 2) rfl (.inr (.inr rfl)) (by decide) (by decide)) pa_nil)))))), ?_⟩
    refine ⟨_, rfl, _, rfl, hT, fun H3 e3 T3 => ?_⟩
    have ek : Ek (tabs T) H H3 := ⟨e3, fun _ => T3⟩
    refine ⟨N, s, fun x => ch (s + x) s, rfl, rfl, hN1, ?_, ch_more hs1, fun x hx Q' q' => ?_, fun l h1 h2 => ?_⟩
    · show ch (s + 0) s ≤ N
      rw [Nat.add_zero, ch_self]
      exact hN1
    · refine ⟨_, rfl, _, rfl, _, _, rfl, ccomb_add hs hN hx, ?_⟩
      rw [comb_add]
      exact q'
    · have := q (s + l) h1 h2 H3 ek
      rw [Int.natCast_add] at this
      exact this
theorem top_lt {a p r : Nat} (hp : 1 ≤ p) (h : ch a p ≤ r) (hr : 1 ≤ r) : a < p + r := by
  by_cases z : p ≤ a
  · have := ch_more hp (a - p)
    rw [show p + (a - p) = a by omega] at this
    omega
  · omega
theorem big_pow {r : Nat} (h : r < 2 ^ 1900) (k : Nat) (hk : k ≤ 1000) : r + k < 2 ^ 1910 := by
  have e : 2 ^ 1910 = 1024 * 2 ^ 1900 := Nat.pow_add 2 10 1900
  have h2 : 2 ^ 10 ≤ 2 ^ 1900 := Nat.pow_le_pow_right (by decide) (by decide)
  rw [e]
  generalize 2 ^ 1900 = z at *
  omega
def tz (xs : List Nat) : List V := (iz xs).map V.int
theorem tz_len (xs : List Nat) : (tz xs).length = xs.length := by unfold tz; rw [List.length_map, iz_len]
theorem tz_get (xs : List Nat) (i : Nat) : (tz xs)[i]? = Option.map (fun (n : Nat) => V.int (n : Int)) xs[i]? := by
  unfold tz
  rw [List.getElem?_map, iz_get, Option.map_map]
  rfl
theorem tz_snoc (xs : List Nat) (a : Nat) : tz (xs ++ [a]) = tz xs ++ [.int a] := by
  unfold tz
  rw [iz_append, List.map_append]
  rfl
theorem tz_at {xs : List Nat} {i : Nat} {x : V} (h : (tz xs)[i]? = some x) : ∃ a : Nat, xs[i]? = some a ∧ x = .int (a : Int) := by
  rw [tz_get] at h
  cases e : xs[i]? with
  | none => rw [e] at h; cases h
  | some a => rw [e] at h; cases h; exact ⟨a, rfl, rfl⟩
theorem tz_range (ts : List Nat) {n : Nat} (hn : n = ts.length) : (List.range n).map (fun i => V.int ((ts.getD i 0 : Nat) : Int)) = tz ts := by
  subst hn
  apply List.ext_getElem?
  intro i
  rw [List.getElem?_map, tz_get]
  by_cases hi : i < ts.length
  · rw [List.getElem?_range hi, List.getElem?_eq_getElem hi]
    have : ts.getD i 0 = ts[i] := by rw [List.getD_eq_getElem?_getD, List.getElem?_eq_getElem hi]; rfl
    show some (V.int ((ts.getD i 0 : Nat) : Int)) = some (V.int ((ts[i] : Nat) : Int))
    rw [this]
  · rw [List.getElem?_eq_none (by rw [List.length_range]; omega), List.getElem?_eq_none (by omega)]
    rfl
/-- a def that hands back a new tuple: what its caller wants -/
def RetT (xs : List V) (H : Hp) (Q : VK) : Prop := ∀ p H2, H p = none → Ex H H2 → H2 p = some (.tup xs) → Q (.ref p) H2
def sp_cascade_of (TL : List (Addr × Str)) : Sp := fun vs H Q _ => ∃ N s : Nat, vs = [.int N, .int s] ∧ N < 2 ^ 1900 ∧ 1 ≤ s ∧ s ≤ 17 ∧ Tabs (TL) H ∧ ∀ xs, Cas s xs → val s xs = N → RetTk (TL) (tz xs) H Q
theorem ok_cascade_of (T : Txt K mg) (TB : TabB base mg T.c_greatest_top T.P_greatest_top) : FnOk P w K mg base CX0 4 T.f_cascade_of T.d_cascade_of ["number", "size"] (sp_cascade_of (tabs T)) := by
  have F_check_number := ok_check_number (P := P) (w := w) (base := base) T
  have F_check_size := ok_check_size (P := P) (w := w) (base := base) T
  have F_greatest_top := ok_greatest_top (P := P) (w := w) (base := base) T TB
  refine T.U_cascade_of.ok sc_cascade_of (fun vs H Q E h => ?_) (fun cdv A outer s H vs Q E hr h => ?_)
  · obtain ⟨n, l, rfl, _⟩ := h
    rfl
  · obtain ⟨N, s, rfl, hN, hs1, hs, hT, q⟩ := h
    refine ⟨_, (pss_cons (ps_expr (pe_call F_check_number (hr.mono (by decide)) (by rfl) T.g_check_number T.k_check_number T.b_check_number .nil pass0 (pa_cons (pv 0) pa_nil)))
  (pss_cons (ps_expr (pe_call F_check_size (hr.mono (by decide)) (by rfl) T.g_check_size T.k_check_size T.b_check_size .nil pass0 (pa_cons (pv 1) pa_nil)))
  (pss_cons (ps_set (i := 2) sc_cascade_of.nd rfl (.inl rfl) (pe_lst pa_nil))
  (pss_cons (ps_set (i := 3) sc_cascade_of.nd rfl (.inl rfl) (pv 0))
  (pss_cons (ps_set (i := 4) sc_cascade_of.nd rfl (.inl rfl) (pv 1))
  (pss_cons (ps_while PassesOwn.never (pt_cmpR op_gt (pv 3) pe_int (nomark _)) (pss_cons (ps_set (i := 5) sc_cascade_of.nd rfl (.inl rfl) (pe_call F_greatest_top (hr.mono (by decide)) (by rfl) T.g_greatest_top T.k_greatest_top T.b_greatest_top .nil pass0 (pa_cons (pv 3) (pa_cons (pv 4) pa_nil))))
  (pss_cons (ps_expr (pe_bm PySem.F.plainAttrs_list PySem.F.slot_list_append PySem.F.type_list_append mt_append (pv 2) (pa_cons (pv 5) pa_nil)))
  (pss_cons (ps_set (i := 3) sc_cascade_of.nd rfl (.inl rfl) (pe_op op_sub (pv 3) (pe_callBfun cr_comb (by rfl) T.comb (pa_cons (pv 5) (pa_cons (pv 4) pa_nil)))))
  (pss_one (ps_set (i := 4) sc_cascade_of.nd rfl (.inl rfl) (pe_op op_sub (pv 4) pe_int)))))))
  (pss_one (ps_ret (pe_callTy call_tuple_of (by rfl) T.n_tuple (by decide +kernel) (pa_cons (pv 2) pa_nil)))))))))), ?_⟩
    refine ⟨_, rfl, N, rfl, ?_⟩
    refine ⟨_, rfl, _, rfl, by omega, ?_⟩
    refine ⟨Nat.zero_le _, fun o no => ⟨_, rfl, _, rfl, ?_⟩⟩
    refine ⟨fun m σ H' => ∃ (xs : List Nat) (r p : Nat) (y : Option V), σ = [some (.int N), some (.int s), some (.ref o), some (.int r), some (.int p), y] ∧ Cas s xs ∧ xs.length + p = s ∧ val s xs + r = N ∧ (∀ b, xs.getLast? = some b → r < ch b p) ∧ Ek (tabs T) H H' ∧ H' o = some (.lst (tz xs)) ∧ m = p,
      ⟨_, [], N, s, none, rfl, Cas.nil s, Nat.zero_add s, Nat.zero_add N, fun b h => (nomatch h), Ek.new no, upd_same, rfl⟩, ?_⟩
    rintro m σ H' ⟨xs, r, p, y, rfl, c, h1, h2, h3, ex, ho, rfl⟩
    refine ⟨_, rfl, _, _, rfl, rfl, _, rfl, ite2 (fun e => ?_) (fun e => ?_)⟩
    · have hr0 : 1 ≤ r := by have := of_decide_eq_true e; omega
      have hp : 1 ≤ m := by
        by_cases z : m = 0
        · subst z
          cases hx : xs.getLast? with
          | none =>
            rw [List.getLast?_eq_none_iff] at hx
            subst hx
            simp at h1
            omega
          | some b =>
            have := h3 b hx
            rw [ch_zero] at this
            omega
        · omega
      refine ⟨fun σ' H2 => ∃ (xs : List Nat) (r p : Nat) (y : Option V), σ' = [some (.int N), some (.int s), some (.ref o), some (.int r), some (.int p), y] ∧ Cas s xs ∧ xs.length + p = s ∧ val s xs + r = N ∧ (∀ b, xs.getLast? = some b → r < ch b p) ∧ Ek (tabs T) H H2 ∧ H2 o = some (.lst (tz xs)) ∧ p < m, ?_, ?_⟩
      · rintro σ' H2 ⟨xs', r', p', y', rfl, c', k1, k2, k3, k4, k5, k6⟩
        exact ⟨p', k6, xs', r', p', y', rfl, c', k1, k2, k3, k4, k5, rfl⟩
      · refine ⟨_, rfl, _, rfl, r, m, rfl, hr0, by omega, hp, by omega, ex.t hT, fun a ha1 ha2 H4 e4 => ?_⟩
        replace ho := e4.get ho
        replace ex := ex.trans e4
        obtain ⟨c2, hlt⟩ := cas_add c h1 hp hr0 h3 ha1 ha2
        refine ⟨_, rfl, .inl ⟨rfl, _, SqL.of ho⟩, _, rfl, o, _, _, rfl, rfl, ho, ?_, ?_⟩
        · rw [tz_len]
          exact small1000 (by omega)
        · have hal := top_lt hp ha1 hr0
          have hbig := big_pow (show r < 2 ^ 1900 by omega) m (by omega)
          refine ⟨_, rfl, _, rfl, _, rfl, (a : Int), (m : Int), rfl, ccomb (m := 1910) (by omega) (by omega) (by decide) (by decide), _, _, rfl, rfl, ?_⟩
          refine ⟨_, rfl, _, _, rfl, rfl, xs ++ [a], r - ch a m, m - 1, some (.int a), ?_, c2, ?_, ?_, ?_, Ek.mutL ex no ho, ?_, by omega⟩
          · rw [comb_nat]
            have e1 : ((r : Int) - ((ch a m : Nat) : Int)) = ((r - ch a m : Nat) : Int) := by omega
            have e2 : ((m : Int) - 1) = ((m - 1 : Nat) : Int) := by omega
            rw [← e1, ← e2]
            rfl
          · rw [List.length_append, List.length_singleton]
            omega
          · rw [val_snoc, show s - xs.length = m by omega]
            omega
          · intro b hb
            rw [List.getLast?_append] at hb
            have : a = b := by simpa using hb
            subst this
            exact hlt
          · rw [tz_snoc]
            exact upd_same
    · have hr0 : r = 0 := by
        by_cases z : 0 < r
        · exact absurd (decide_eq_true (by omega)) e
        · omega
      subst hr0
      refine ⟨_, rfl, o, _, rfl, .inl ⟨SqL.of ho, fun l hl => ?_⟩⟩
      exact q xs c (by omega) l _ (ex.trans (Ek.new hl)) upd_same

def sp_moved_sum : Sp := fun vs H Q _ => ∃ (s : Nat) (c : Addr) (xs : List Nat) (mt ms : Int) (A I : Nat → Nat), vs = [.int s, .ref c, .int mt, .int ms] ∧ H c = some (.tup (tz xs)) ∧ xs.length ≤ s ∧ s ≤ 17 ∧
  (∀ (i a : Nat), xs[i]? = some a → (a : Int) + mt = ((A a : Nat) : Int) ∧ ((s : Int) - (i : Int)) + ms = ((I (s - i) : Nat) : Int) ∧ A a < 2 ^ 2000 ∧ I (s - i) ≤ 20) ∧ RetV (.int (((terms (fun a i => ch (A a) (I i)) s xs).sum : Nat) : Int)) H Q
theorem ok_moved_sum (T : Txt K mg) : FnOk P w K mg base CX0 2 T.f_moved_sum T.d_moved_sum ["size", "cascade", "more_things", "more_size"] sp_moved_sum := by
  refine T.U_moved_sum.ok sc_moved_sum (fun vs H Q E h => ?_) (fun cdv A outer s H vs Q E hr h => ?_)
  · obtain ⟨_, _, _, _, _, _, _, rfl, _⟩ := h
    rfl
  · obtain ⟨s, c, xs, mt, ms, A, I, rfl, hc, hl, hs, hx, q⟩ := h
    refine ⟨_, (pss_one (ps_ret (pe_callB (cr_sum rfl) (by rfl) T.n_sum (by decide +kernel) (pa_cons (pe_lc (own := [("k", 4), ("top", 5)]) (g := gTup K 2 (gCons (gName 4) (gCons (gName 5) (gNil)))) (tt := tYes) rfl sc_moved_sum.nd (pi_enumT (by rfl) T.n_enumerate (pa_cons (pv 1) pa_nil)) (blkOk_by (own := [("k", 4), ("top", 5)]) (N := ["size", "cascade", "more_things", "more_size", "k", "top"]) (sc := defScope s_moved_sum) (by decide +kernel)) (fun _ _ _ _ _ => pg_tup rfl (pgs_cons (pg_name (i := 4) sc_moved_sum.nd rfl (Or.inl rfl)) (pgs_cons (pg_name (i := 5) sc_moved_sum.nd rfl (Or.inl rfl)) pgs_nil))) (fun _ _ _ _ _ => pts_nil) (fun _ _ _ _ _ => (pe_callBfun cr_comb (by rfl) T.comb (pa_cons (pe_op op_add (pv 5) (pv 2)) (pa_cons (pe_op op_add (pe_op op_sub (pv 0) (pv 4)) (pv 3)) pa_nil))))) pa_nil)))), ?_⟩
    refine r_ret (r_cb (r_arg ?_))
    refine el_lcW (H := H) (walk_enumT (a := c) (xs := tz xs)) (fun _ => true) (fun i => .int (((terms (fun a i => ch (A a) (I i)) s xs).getD i 0 : Nat) : Int)) (by rw [tz_len]; omega)
      (fun H1 e R k => ⟨_, rfl, c, tz xs, rfl, SqT.of (e _ _ hc), k H1 (Ex.refl H1)⟩) (fun H1 e => SqT.of (e _ _ hc)) ?_ ?_ H (Ex.refl H) _ ?_
    · rintro i H1 x H2 ⟨T, _, _, rfl, nT, rfl, _, _⟩
      exact Ex.new nT
    · rintro i x H1 H2 hi e ⟨T, x1, x2, rfl, nT, rfl, e1, e2⟩
      cases e1
      obtain ⟨a, ha, rfl⟩ := tz_at e2
      obtain ⟨g1, g2, g3, g4⟩ := hx i a ha
      refine ⟨[some (.int s), some (.ref c), some (.int mt), some (.int ms), some (.int i), some (.int a)], fun k hk => ?_, rfl, et_yes, fun _ => ?_⟩
      · exact ⟨T, [.int i, .int a], rfl, .inl (.inl upd_same), rfl, _, _, rfl, _, _, rfl, rfl, hk⟩
      · intro H3 e3 Q3 q3
        refine ⟨_, rfl, _, rfl, _, _, rfl, rfl, _, rfl, _, rfl, _, _, rfl, rfl, _, rfl, _, _, rfl, rfl, _, _, rfl, ?_, ?_⟩
        · rw [g1, g2]
          exact ccomb (m := 2000) g3 g4 (by decide) (by decide)
        · rw [g1, g2, comb_nat]
          have e5 : (terms (fun a i => ch (A a) (I i)) s xs).getD i 0 = ch (A a) (I (s - i)) := by
            rw [List.getD_eq_getElem?_getD, terms_get, ha]
            rfl
          rw [e5] at q3
          exact q3 H3 (Ex.refl H3)
    · intro p H2 np e hp
      rw [given_all] at hp
      rw [tz_range _ (by rw [terms_len, tz_len])] at hp
      refine ⟨p, iz (terms (fun a i => ch (A a) (I i)) s xs), rfl, SqL.of hp, ?_⟩
      rw [iz_sum]
      exact q H2 e
def gLS (a i : Nat) : Nat := ch a (i - 1)
def gUS (a i : Nat) : Nat := ch a (i + 1)
def gLP (a i : Nat) : Nat := ch (a - 1) (i - 1)
def gUP (a i : Nat) : Nat := ch (a + 1) (i + 1)
def four (g : Nat → Nat → Nat) (s : Nat) (xs : List Nat) : Nat := (terms g s xs).sum
theorem lt_2000 {a : Nat} (h : a < 2 ^ 1910) : a + 1 < 2 ^ 2000 := by
  have e : 2 ^ 1911 ≤ 2 ^ 2000 := Nat.pow_le_pow_right (by decide) (by decide)
  have e2 : 2 ^ 1911 = 2 * 2 ^ 1910 := Nat.pow_add 2 1 1910
  rw [e2] at e
  generalize 2 ^ 1910 = z at *
  omega
theorem val_ge : ∀ (s : Nat) (xs : List Nat) (i a : Nat), xs[i]? = some a → ch a (s - i) ≤ val s xs
  | _, [], _, _, h => by simp at h
  | s, x :: xs, 0, a, h => by
    cases h
    show ch x s ≤ ch x s + val (s - 1) xs
    omega
  | s, x :: xs, i + 1, a, h => by
    have ih := val_ge (s - 1) xs i a (by simpa using h)
    rw [show s - (i + 1) = s - 1 - i by omega]
    show ch a (s - 1 - i) ≤ ch x s + val (s - 1) xs
    omega
theorem cas_items {s : Nat} {xs : List Nat} (c : Cas s xs) (hs : s ≤ 17) (hv : val s xs < 2 ^ 1900) : ∀ a ∈ xs, a < 2 ^ 1910 := by
  intro a ha
  obtain ⟨i, h⟩ := List.getElem?_of_mem ha
  have h1 := val_ge s xs i a h
  have hi := (List.getElem?_eq_some_iff.mp h).1
  have hl := c.len
  have hlow := c.low i a h
  have h0 := ch_pos hlow
  have h2 := top_lt (a := a) (p := s - i) (by omega) h1 (by omega)
  have h3 := big_pow hv (s - i) (by omega)
  omega
/-- what one of the four functions tells -/
def sp_fn (TL : List (Addr × Str)) (g : Nat → Nat → Nat) : Sp := fun vs H Q _ => ∃ N s : Nat, vs = [.int N, .int s] ∧ N < 2 ^ 1900 ∧ 1 ≤ s ∧ s ≤ 17 ∧ Tabs (TL) H ∧ ∀ xs, Cas s xs → val s xs = N → RetVk (TL) (.int ((four g s xs : Nat) : Int)) H Q
theorem ok_upper_products (T : Txt K mg) (TB : TabB base mg T.c_greatest_top T.P_greatest_top) : FnOk P w K mg base CX0 5 T.f_upper_products T.d_upper_products ["number", "size"] (sp_fn (tabs T) gUP) := by
  have F_cascade_of := ok_cascade_of (P := P) (w := w) (base := base) T TB
  have F_moved_sum := ok_moved_sum (P := P) (w := w) (base := base) T
  refine T.U_upper_products.ok sc_upper_products (fun vs H Q E h => ?_) (fun cdv A outer s H vs Q E hr h => ?_)
  · obtain ⟨_, _, rfl, _⟩ := h
    rfl
  · obtain ⟨N, s, rfl, hN, hs1, hs, hT, q⟩ := h
    refine ⟨_, (pss_one (ps_ret (pe_call F_moved_sum (hr.mono (by decide)) (by rfl) T.g_moved_sum T.k_moved_sum T.b_moved_sum .nil pass0 (pa_cons (pv 1) (pa_cons (pe_call F_cascade_of (hr.mono (by decide)) (by rfl) T.g_cascade_of T.k_cascade_of T.b_cascade_of .nil pass0 (pa_cons (pv 0) (pa_cons (pv 1) pa_nil))) (pa_cons pe_int (pa_cons pe_int pa_nil))))))), ?_⟩
    refine ⟨_, rfl, _, rfl, _, rfl, N, s, rfl, hN, hs1, hs, hT, fun xs c v p H2 e hp => ⟨s, p, xs, 1, 1, (· + 1), (· + 1), rfl, hp, c.len, hs, fun i a h => ?_, fun H3 e3 => q xs c v H3 (e.ex e3)⟩⟩
    have hi := (List.getElem?_eq_some_iff.mp h).1
    have hl := c.len
    have ha := cas_items c hs (by omega) a (List.mem_of_getElem? h)
    exact ⟨rfl, by show (s : Int) - (i : Int) + 1 = ((s - i + 1 : Nat) : Int); omega, by have := lt_2000 ha; show a + 1 < _; omega, by show s - i + 1 ≤ 20; omega⟩

theorem ok_lower_sets (T : Txt K mg) (TB : TabB base mg T.c_greatest_top T.P_greatest_top) : FnOk P w K mg base CX0 5 T.f_lower_sets T.d_lower_sets ["number", "size"] (sp_fn (tabs T) gLS) := by
  have F_cascade_of := ok_cascade_of (P := P) (w := w) (base := base) T TB
  have F_moved_sum := ok_moved_sum (P := P) (w := w) (base := base) T
  refine T.U_lower_sets.ok sc_lower_sets (fun vs H Q E h => ?_) (fun cdv A outer s H vs Q E hr h => ?_)
  · obtain ⟨_, _, rfl, _⟩ := h
    rfl
  · obtain ⟨N, s, rfl, hN, hs1, hs, hT, q⟩ := h
    refine ⟨_, (pss_one (ps_ret (pe_call F_moved_sum (hr.mono (by decide)) (by rfl) T.g_moved_sum T.k_moved_sum T.b_moved_sum .nil pass0 (pa_cons (pv 1) (pa_cons (pe_call F_cascade_of (hr.mono (by decide)) (by rfl) T.g_cascade_of T.k_cascade_of T.b_cascade_of .nil pass0 (pa_cons (pv 0) (pa_cons (pv 1) pa_nil))) (pa_cons pe_int (pa_cons (pe_un un_neg pe_int) pa_nil))))))), ?_⟩
    refine ⟨_, rfl, _, rfl, _, rfl, N, s, rfl, hN, hs1, hs, hT, fun xs c v p H2 e hp => ⟨_, rfl, s, p, xs, 0, -1, id, (· - 1), rfl, hp, c.len, hs, fun i a h => ?_, fun H3 e3 => q xs c v H3 (e.ex e3)⟩⟩
    have hi := (List.getElem?_eq_some_iff.mp h).1
    have hl := c.len
    have ha := cas_items c hs (by omega) a (List.mem_of_getElem? h)
    exact ⟨by rw [Int.add_zero]; rfl, by show (s : Int) - (i : Int) + -1 = ((s - i - 1 : Nat) : Int); omega, by have := lt_2000 ha; show a < _; omega, by show s - i - 1 ≤ 20; omega⟩
theorem ok_upper_sets (T : Txt K mg) (TB : TabB base mg T.c_greatest_top T.P_greatest_top) : FnOk P w K mg base CX0 5 T.f_upper_sets T.d_upper_sets ["number", "size"] (sp_fn (tabs T) gUS) := by
  have F_cascade_of := ok_cascade_of (P := P) (w := w) (base := base) T TB
  have F_moved_sum := ok_moved_sum (P := P) (w := w) (base := base) T
  refine T.U_upper_sets.ok sc_upper_sets (fun vs H Q E h => ?_) (fun cdv A outer s H vs Q E hr h => ?_)
  · obtain ⟨_, _, rfl, _⟩ := h
    rfl
  · obtain ⟨N, s, rfl, hN, hs1, hs, hT, q⟩ := h
    refine ⟨_, (pss_one (ps_ret (pe_call F_moved_sum (hr.mono (by decide)) (by rfl) T.g_moved_sum T.k_moved_sum T.b_moved_sum .nil pass0 (pa_cons (pv 1) (pa_cons (pe_call F_cascade_of (hr.mono (by decide)) (by rfl) T.g_cascade_of T.k_cascade_of T.b_cascade_of .nil pass0 (pa_cons (pv 0) (pa_cons (pv 1) pa_nil))) (pa_cons pe_int (pa_cons pe_int pa_nil))))))), ?_⟩
    refine ⟨_, rfl, _, rfl, _, rfl, N, s, rfl, hN, hs1, hs, hT, fun xs c v p H2 e hp => ⟨s, p, xs, 0, 1, id, (· + 1), rfl, hp, c.len, hs, fun i a h => ?_, fun H3 e3 => q xs c v H3 (e.ex e3)⟩⟩
    have hi := (List.getElem?_eq_some_iff.mp h).1
    have hl := c.len
    have ha := cas_items c hs (by omega) a (List.mem_of_getElem? h)
    exact ⟨by rw [Int.add_zero]; rfl, by show (s : Int) - (i : Int) + 1 = ((s - i + 1 : Nat) : Int); omega, by have := lt_2000 ha; show a < _; omega, by show s - i + 1 ≤ 20; omega⟩
theorem ok_lower_products (T : Txt K mg) (TB : TabB base mg T.c_greatest_top T.P_greatest_top) : FnOk P w K mg base CX0 5 T.f_lower_products T.d_lower_products ["number", "size"] (sp_fn (tabs T) gLP) := by
  have F_cascade_of := ok_cascade_of (P := P) (w := w) (base := base) T TB
  have F_moved_sum := ok_moved_sum (P := P) (w := w) (base := base) T
  refine T.U_lower_products.ok sc_lower_products (fun vs H Q E h => ?_) (fun cdv A outer s H vs Q E hr h => ?_)
  · obtain ⟨_, _, rfl, _⟩ := h
    rfl
  · obtain ⟨N, s, rfl, hN, hs1, hs, hT, q⟩ := h
    refine ⟨_, (pss_one (ps_ret (pe_call F_moved_sum (hr.mono (by decide)) (by rfl) T.g_moved_sum T.k_moved_sum T.b_moved_sum .nil pass0 (pa_cons (pv 1) (pa_cons (pe_call F_cascade_of (hr.mono (by decide)) (by rfl) T.g_cascade_of T.k_cascade_of T.b_cascade_of .nil pass0 (pa_cons (pv 0) (pa_cons (pv 1) pa_nil))) (pa_cons (pe_un un_neg pe_int) (pa_cons (pe_un un_neg pe_int) pa_nil))))))), ?_⟩
    refine ⟨_, rfl, _, rfl, _, rfl, N, s, rfl, hN, hs1, hs, hT, fun xs c v p H2 e hp => ⟨_, rfl, _, rfl, s, p, xs, -1, -1, (· - 1), (· - 1), rfl, hp, c.len, hs, fun i a h => ?_, fun H3 e3 => q xs c v H3 (e.ex e3)⟩⟩
    have hi := (List.getElem?_eq_some_iff.mp h).1
    have hl := c.len
    have hlow := c.low i a h
    have ha := cas_items c hs (by omega) a (List.mem_of_getElem? h)
    exact ⟨by show (a : Int) + -1 = ((a - 1 : Nat) : Int); omega, by show (s : Int) - (i : Int) + -1 = ((s - i - 1 : Nat) : Int); omega, by have := lt_2000 ha; show a - 1 < _; omega, by show s - i - 1 ≤ 20; omega⟩
end
end K88

/-! A list of faults: [(w, k) for k in a range if ..]. -/
namespace Hr
open PySem PySem.Spec PyProof.Rows L2 Evl
/-- a list that is empty or begins with a pair with the word w -/
def Flt (H : Hp) (p : Addr) (w : Str) (b : Bool) : Prop := (b = false → H p = some (.lst [])) ∧ (b = true → ∃ t rest n, H p = some (.lst (.ref t :: rest)) ∧ rest.length ≤ 1000 ∧ H t = some (.tup [.str w, .int n]))
def anyN (n : Nat) (f : Nat → Bool) : Bool := (List.range n).any f
theorem anyN_iff {n : Nat} {f : Nat → Bool} : anyN n f = false ↔ ∀ j, j < n → f j = false := by
  unfold anyN
  rw [List.any_eq_false]
  constructor
  · intro h j hj
    exact Bool.eq_false_iff.mpr (h j (List.mem_range.mpr hj))
  · intro h x hx
    rw [h x (List.mem_range.mp hx)]
    exact Bool.false_ne_true
theorem anyN_true {n : Nat} {f : Nat → Bool} (h : anyN n f = true) : ∃ j, j < n ∧ f j = true := by
  obtain ⟨j, hj, e⟩ := List.any_eq_true.mp h
  exact ⟨j, List.mem_range.mp hj, e⟩
section
variable {K : PySem.W.Frag} {σ : L2.St} {H : Hp} {te tl : TE} {g : TG} {tt : TT} {vs : List Nat} {Q : VK} {lo hi : Int}
theorem lc_flt {r : Addr} (hr : H r = some (.rng lo hi)) (hl : Ev tl σ H (.ref r)) (hb : -(2 ^ 62) ≤ lo ∧ lo < 2 ^ 62 ∧ -(2 ^ 62) ≤ hi ∧ hi < 2 ^ 62) (f : Nat → Bool) (w : Str) (hz : (hi - lo).toNat ≤ 1000)
    (hs : ∀ (i : Nat) H2, Ex H H2 → i < (hi - lo).toNat → ∃ σ2, (∀ k : L2.St → Hp → Prop, k σ2 H2 → g (.int (lo + i)) (wipe σ vs) H2 k) ∧ wipe σ2 vs = wipe σ vs ∧ EvT tt σ2 H2 (f i) ∧
      (f i = true → ∀ H3, Ex H2 H3 → ∀ Q' : VK, (∀ t, H3 t = none → Q' (.ref t) (upd H3 t (.tup [.str w, .int (lo + i)]))) → te σ2 H3 Q'))
    (q : ∀ p H2, H p = none → Ex H H2 → Flt H2 p w (anyN (hi - lo).toNat f) → Q (.ref p) H2) : tLc (iRngV tl) g tt te vs σ H Q := by
  refine hl H (Ex.refl H) _ fun H1 e1 => ⟨r, lo, hi, rfl, e1 _ _ hr, hb, fun D nD => ?_⟩
  refine lc_it (walk_range (lo := lo) (n := (hi - lo).toNat)) (fun i H' => ∃ acc, Ex H H' ∧ H' D = some (.lst acc) ∧ acc.length ≤ i ∧ (acc = [] ↔ ∀ j, j < i → f j = false) ∧ ∀ x ∈ acc, ∃ t n, x = .ref t ∧ H' t = some (.tup [.str w, .int n])) ?_ (fun _ _ _ _ => trivial) ?_ ?_
  · exact ⟨[], e1.trans (Ex.new nD), upd_same, Nat.le_refl _, ⟨fun _ j h => absurd h (Nat.not_lt_zero _), fun _ => rfl⟩, fun x hx => by simp at hx⟩
  · rintro i x H2 H3 hi ⟨acc, e2, hD, hl2, hno, hall⟩ ⟨rfl, rfl⟩
    obtain ⟨σ2, h1, h2, h3, h4⟩ := hs i H3 e2 hi
    refine h1 _ ⟨h2, h3 H3 (Ex.refl _) _ fun H4 e4 => ?_⟩
    cases hf : f i with
    | true =>
      rw [if_pos rfl]
      refine h4 hf H4 e4 _ fun t nt => ?_
      have e5 := Ex.new (o := .tup [.str w, .int (lo + i)]) nt
      have hD5 := e5 _ _ (e4 _ _ hD)
      refine ⟨acc, hD5, small1000 (by omega), acc ++ [.ref t], Ex.mut (e2.trans (e4.trans e5)) (fresh_back e1 nD), upd_same, by rw [List.length_append, List.length_singleton]; omega, ?_, ?_⟩
      · constructor
        · intro z
          simp at z
        · intro z
          have := z i (Nat.lt_succ_self i)
          rw [hf] at this
          cases this
      · have keep : ∀ (u : Addr) (n : Int), (upd H4 t (.tup [.str w, .int (lo + i)])) u = some (.tup [.str w, .int n]) → (upd (upd H4 t (.tup [.str w, .int (lo + i)])) D (.lst (acc ++ [.ref t]))) u = some (.tup [.str w, .int n]) := by
          intro u n hu
          have : u ≠ D := fun z => by
            subst z
            rw [hD5] at hu
            cases hu
          rw [upd_ne this]
          exact hu
        intro x hx
        rcases List.mem_append.mp hx with hx | hx
        · obtain ⟨u, n, rfl, hu⟩ := hall x hx
          exact ⟨u, n, rfl, keep u n (e5 _ _ (e4 _ _ hu))⟩
        · rw [List.mem_singleton.mp hx]
          exact ⟨t, _, rfl, keep t _ upd_same⟩
    | false =>
      rw [if_neg (by exact Bool.false_ne_true)]
      refine ⟨acc, e2.trans e4, e4 _ _ hD, by omega, ?_, fun x hx => ?_⟩
      · rw [hno]
        constructor
        · intro z j hj
          by_cases e : j = i
          · subst e
            exact hf
          · exact z j (by omega)
        · intro z j hj
          exact z j (by omega)
      · obtain ⟨u, n, rfl, hu⟩ := hall x hx
        exact ⟨u, n, rfl, e4 _ _ hu⟩
  · rintro H2 ⟨acc, e2, hD, hl2, hno, hall⟩
    refine q D H2 (fresh_back e1 nD) e2 ⟨fun hb => ?_, fun hb => ?_⟩
    · have := hno.mpr (anyN_iff.mp hb)
      rw [this] at hD
      exact hD
    · cases acc with
      | nil =>
        have := anyN_iff.mpr (hno.mp rfl)
        rw [hb] at this
        cases this
      | cons x rest =>
        obtain ⟨t, n, rfl, ht⟩ := hall x List.mem_cons_self
        exact ⟨t, rest, n, hD, by rw [List.length_cons] at hl2; omega, ht⟩
end
end Hr
namespace Hr
open PySem PySem.Spec PyProof.Rows L2
/-- x is None, x is not None -/
def rIsNo : R2 := fun x y H Q => y = .non ∧ Q (.bl (decide (x = .non))) H
def rNotNo : R2 := fun x y H Q => y = .non ∧ Q (.bl (!decide (x = .non))) H
theorem op_isNo {X : Cx} : OpR X (compareOp .Is) rIsNo := op_isN
theorem op_notNo {X : Cx} : OpR X (compareOp .IsNot) rNotNo := op_notN
end Hr

/-! Rows with a gap: what fits, and between which ends. -/
namespace HrM
open Hr
/-- a place of a row that is too small for the next, or of a row that grows too fast -/
noncomputable def badS (xs : List Nat) (i : Nat) : Bool := decide (xs.getD i 0 < Lf 0 (i + 2) (xs.getD (i + 1) 0))
noncomputable def badP (xs : List Nat) (i : Nat) : Bool := decide (Uf 1 (i + 1) (xs.getD (i + 1) 0) < xs.getD (i + 2) 0)
noncomputable def ftS (xs : List Nat) : Bool := !anyN (xs.length - 1) (badS xs)
noncomputable def ftP (xs : List Nat) : Bool := !anyN (xs.length - 2) (badP xs)
end HrM
namespace HrM
theorem cas_tops {s n : Nat} {xs : List Nat} (c : Cas s xs) (v : val s xs = n) : ∀ a, xs[0]? = some a → a < n + s := by
  intro a ha
  cases xs with
  | nil => cases ha
  | cons b r =>
    cases ha
    have hl := c.low 0 a rfl
    have hp := c.len
    rw [List.length_cons] at hp
    have h1 := ch_more (s := s) (by omega) (a - s)
    rw [show s + (a - s) = a by omega] at h1
    have h2 : ch a s ≤ val s (a :: r) := by
      show ch a s ≤ ch a s + val (s - 1) r
      omega
    omega
theorem ch_pow {a k b m : Nat} (h : a ≤ 2 ^ b) (hk : k ≤ m) : ch a k ≤ 2 ^ (b * m) := by
  refine Nat.le_trans (ch_le_pow a k) (Nat.le_trans (Nat.pow_le_pow_left h k) ?_)
  rw [← Nat.pow_mul]
  exact Nat.pow_le_pow_right (by decide) (Nat.mul_le_mul_left b hk)
theorem few_pow {n s : Nat} (h : n < 2 ^ 100) (hs : s ≤ 17) : n + s + 1 ≤ 2 ^ 101 := by
  have h2 : (2 : Nat) ^ 101 = 2 * 2 ^ 100 := Nat.pow_succ'
  have h3 : (32 : Nat) ≤ 2 ^ 100 := Nat.le_trans (by decide : 32 ≤ 2 ^ 5) (Nat.pow_le_pow_right (by decide) (by decide))
  rw [h2]
  generalize 2 ^ 100 = z at *
  omega
theorem Lf_lt {δ s n : Nat} (hδ : δ ≤ 1) (h : n < 2 ^ 100) (h1 : 1 ≤ s) (hs : s ≤ 17) : Lf δ s n < 2 ^ 1850 := by
  have C := cc_cas (s := s) (n := n) h1
  have l := sL_le hδ C.1 (cas_tops C.1 C.2)
  have p := few_pow h hs
  have := ch_pow (a := n + s - δ) (k := s - 1) (b := 101) (m := 18) (by omega) (by omega)
  have e : (2 : Nat) ^ (101 * 18) < 2 ^ 1850 := Nat.pow_lt_pow_right (by decide) (by decide)
  unfold Lf
  omega
theorem Uf_lt {δ s n : Nat} (hδ : δ ≤ 1) (h : n < 2 ^ 100) (h1 : 1 ≤ s) (hs : s ≤ 17) : Uf δ s n < 2 ^ 1850 := by
  have C := cc_cas (s := s) (n := n) h1
  have p := few_pow h hs
  have e : (2 : Nat) ^ (101 * 18) < 2 ^ 1850 := Nat.pow_lt_pow_right (by decide) (by decide)
  unfold Uf
  by_cases z : n = 0
  · have e0 := cc_eq (s := s) (n := n) (xs := []) h1 (Cas.nil s) (by rw [z]; rfl)
    rw [← e0]
    show 0 < _
    exact Nat.pow_pos (by decide)
  · have l := sU_lt (δ := δ) C.1 (cas_tops C.1 C.2) (by omega)
    have := ch_pow (a := n + s + δ) (k := s + 1) (b := 101) (m := 18) (by omega) (by omega)
    omega
end HrM

/-! Comprehensions whose parts may add to tables of code objects. -/
namespace Hr
open PySem PySem.Spec PyProof.Rows L2 Evl LamX
section
variable {T : List (Addr × Str)} {σ : L2.St} {H : Hp} {g : TG} {tt : TT} {te : TE} {vs : List Nat}
theorem TupR.upK {R : List V → Prop} {H H' : Hp} {y : V} (e : Ek T H H') (h : TupR R H y) : TupR R H' y := by
  obtain ⟨c, us, rfl, hc, r⟩ := h
  exact ⟨c, us, rfl, e.get hc, r⟩
/-- what a condition, an item tells where tables may grow -/
def TtK (T : List (Addr × Str)) (tt : TT) (σ : L2.St) (H : Hp) (b : Bool) : Prop := ∀ Q : Bool → Hp → Prop, (∀ H2, Ek T H H2 → Tabs T H2 → Q b H2) → tt σ H Q
def TeK (T : List (Addr × Str)) (te : TE) (σ : L2.St) (H : Hp) (v : V) : Prop := ∀ H1, Ek T H H1 → Tabs T H1 → ∀ Q : VK, (∀ H2, Ek T H1 H2 → Tabs T H2 → Q v H2) → te σ H1 Q
theorem TtK.yes (t : Tabs T H) : TtK T tYes σ H true := fun Q q => r_yes (q H (Ek.refl H) t)
theorem TtK.of {b : Bool} (t : Tabs T H) (h : EvT tt σ H b) : TtK T tt σ H b := fun Q q => h H (Ex.refl H) Q fun H2 e => q H2 (.of e) (t.ext e)
theorem lcK {J : It} {n : Nat} {G : Hp → Prop} {Y : Nat → Hp → V → Hp → Prop} {Q : VK} (wk : Walk J n G Y) (f : Nat → Bool) (v : Nat → V) (hz : n ≤ 40000) (hT : Tabs T H)
    (hG : ∀ H1, Ek T H H1 → G H1) (hY : ∀ i H1 x H2, Y i H1 x H2 → Ex H1 H2)
    (hs : ∀ i x H1 H2, i < n → Ek T H H1 → Tabs T H2 → Y i H1 x H2 → ∃ σ2, (∀ k : L2.St → Hp → Prop, k σ2 H2 → g x (wipe σ vs) H2 k) ∧ wipe σ2 vs = wipe σ vs ∧ TtK T tt σ2 H2 (f i) ∧ (f i = true → TeK T te σ2 H2 (v i)))
    (q : ∀ p H2, H p = none → Ek T H H2 → Tabs T H2 → H2 p = some (.lst (given n f v)) → Q (.ref p) H2) : tLc (fun _ H' R => R J H') g tt te vs σ H Q := by
  intro D hD
  refine lc_it wk (fun i H2 => Ek T H H2 ∧ H2 D = some (.lst (given i f v))) ⟨.new hD, upd_same⟩ (fun i H2 _ p => hG H2 p.1) (fun i x H2 H3 hi p y => ?_) (fun H2 p => q D H2 hD p.1 (p.1.t hT) p.2)
  obtain ⟨p1, p2⟩ := p
  have e3 := hY i H2 x H3 y
  obtain ⟨σ2, hk, hw, ht, he⟩ := hs i x H2 H3 hi p1 ((p1.t hT).ext e3) y
  refine hk _ ⟨hw, ht _ fun H4 e4 t4 => ?_⟩
  cases hf : f i with
  | true =>
    show te σ2 H4 _
    refine he hf H4 e4 t4 _ fun H5 e5 t5 => ?_
    have h5 := e5.get (e4.get (e3 _ _ p2))
    refine ⟨given i f v, h5, sz_lt (by have := given_len i f v; omega), Ek.mutL (((p1.ex e3).trans e4).trans e5) hD h5, ?_⟩
    rw [given_yes hf]
    exact upd_same
  | false =>
    refine ⟨(p1.ex e3).trans e4, ?_⟩
    rw [given_no hf]
    exact e4.get (e3 _ _ p2)
theorem lcKU {J : It} {n : Nat} {G : Hp → Prop} {Y : Nat → Hp → V → Hp → Prop} {Q : VK} {R : List V → Prop} (wk : Walk J n G Y) (f : Nat → Bool) (hz : n ≤ 40000) (hT : Tabs T H)
    (hG : ∀ H1, Ek T H H1 → G H1) (hY : ∀ i H1 x H2, Y i H1 x H2 → Ex H1 H2)
    (hs : ∀ i x H1 H2, i < n → Ek T H H1 → Tabs T H2 → Y i H1 x H2 → ∃ σ2, (∀ k : L2.St → Hp → Prop, k σ2 H2 → g x (wipe σ vs) H2 k) ∧ wipe σ2 vs = wipe σ vs ∧ TtK T tt σ2 H2 (f i) ∧
      (f i = true → ∀ H3, Ek T H2 H3 → Tabs T H3 → ∀ Q3 : VK, (∀ c us H4, Ek T H3 H4 → Tabs T H4 → H4 c = some (.tup us) → R us → Q3 (.ref c) H4) → te σ2 H3 Q3))
    (q : ∀ p H2 ys, H p = none → Ek T H H2 → Tabs T H2 → H2 p = some (.lst ys) → ys.length = ((List.range n).filter f).length → (∀ y ∈ ys, TupR R H2 y) → Q (.ref p) H2) : tLc (fun _ H' R => R J H') g tt te vs σ H Q := by
  intro D hD
  refine lc_it wk (fun i H2 => Ek T H H2 ∧ ∃ ys, H2 D = some (.lst ys) ∧ ys.length = ((List.range i).filter f).length ∧ ys.length ≤ i ∧ ∀ y ∈ ys, TupR R H2 y)
    ⟨.new hD, [], upd_same, rfl, Nat.le_refl _, fun y hy => absurd hy (by simp)⟩ (fun i H2 _ p => hG H2 p.1) (fun i x H2 H3 hi p y => ?_) (fun H2 p => ?_)
  · have e3 := hY i H2 x H3 y
    obtain ⟨p1, ys, hy, hl, hl2, hr⟩ := p
    obtain ⟨σ2, hk, hw, ht, he⟩ := hs i x H2 H3 hi p1 ((p1.t hT).ext e3) y
    refine hk _ ⟨hw, ht _ fun H4 e4 t4 => ?_⟩
    rw [List.range_succ, List.filter_append, List.length_append]
    cases hf : f i with
    | true =>
      show te σ2 H4 _
      refine he hf H4 e4 t4 _ fun c us H5 e5 t5 hc hR => ?_
      have h5 := e5.get (e4.get (e3 _ _ hy))
      refine ⟨ys, h5, sz_lt (by omega), Ek.mutL (((p1.ex e3).trans e4).trans e5) hD h5, ys ++ [.ref c], upd_same, ?_, ?_, ?_⟩
      · rw [List.length_append, List.filter_cons, if_pos hf, hl]
        rfl
      · rw [List.length_append]
        show ys.length + 1 ≤ i + 1
        omega
      · intro y hy2
        refine TupR.upd h5 ?_
        rcases List.mem_append.mp hy2 with h | h
        · exact TupR.upK (((Ek.of e3).trans e4).trans e5) (hr y h)
        · cases List.mem_singleton.mp h
          exact ⟨c, us, rfl, hc, hR⟩
    | false =>
      refine ⟨(p1.ex e3).trans e4, ys, e4.get (e3 _ _ hy), ?_, by omega, fun y h => TupR.upK ((Ek.of e3).trans e4) (hr y h)⟩
      rw [List.filter_cons, if_neg (by rw [hf]; exact Bool.false_ne_true), hl]
      rfl
  · obtain ⟨p1, ys, hy, hl, _, hr⟩ := p
    exact q D H2 ys hD p1 (p1.t hT) hy hl hr
end
section
variable {T : List (Addr × Str)} {σ : L2.St} {H : Hp} {g : TG} {tt : TT} {te tl : TE} {vs : List Nat} {ta : TA} {Q : VK} {R : List V → Prop} {lo hi : Int}
theorem lcKR (ha : EvA ta σ H [.int lo, .int hi]) (hb : -(2 ^ 62) ≤ lo ∧ lo < 2 ^ 62 ∧ -(2 ^ 62) ≤ hi ∧ hi < 2 ^ 62) (f : Nat → Bool) (v : Nat → V) (hz : (hi - lo).toNat ≤ 40000) (hT : Tabs T H)
    (hs : ∀ (i : Nat) H2, Ek T H H2 → Tabs T H2 → i < (hi - lo).toNat → ∃ σ2, (∀ k : L2.St → Hp → Prop, k σ2 H2 → g (.int (lo + i)) (wipe σ vs) H2 k) ∧ wipe σ2 vs = wipe σ vs ∧ TtK T tt σ2 H2 (f i) ∧ (f i = true → TeK T te σ2 H2 (v i)))
    (q : ∀ p H2, Ek T H H2 → Tabs T H2 → H2 p = some (.lst (given (hi - lo).toNat f v)) → Q (.ref p) H2) : tLc (iRng2 ta) g tt te vs σ H Q :=
  ha H (Ex.refl H) _ fun H1 e1 => ⟨lo, hi, rfl, hb, lcK (walk_range (lo := lo) (n := (hi - lo).toNat)) f v hz (hT.ext e1) (fun _ _ => trivial) (fun i H1 x H2 y => by rw [y.1]; exact Ex.refl _)
    (fun i x H2 H3 hi e2 t3 y => by
      obtain ⟨rfl, rfl⟩ := y
      exact hs i _ ((Ek.of e1).trans e2) t3 hi)
    fun p H2 _ e2 t2 hp => q p H2 ((Ek.of e1).trans e2) t2 hp⟩
theorem lcKRU (ha : EvA ta σ H [.int lo, .int hi]) (hb : -(2 ^ 62) ≤ lo ∧ lo < 2 ^ 62 ∧ -(2 ^ 62) ≤ hi ∧ hi < 2 ^ 62) (f : Nat → Bool) (hz : (hi - lo).toNat ≤ 40000) (hT : Tabs T H)
    (hs : ∀ (i : Nat) H2, Ek T H H2 → Tabs T H2 → i < (hi - lo).toNat → ∃ σ2, (∀ k : L2.St → Hp → Prop, k σ2 H2 → g (.int (lo + i)) (wipe σ vs) H2 k) ∧ wipe σ2 vs = wipe σ vs ∧ TtK T tt σ2 H2 (f i) ∧
      (f i = true → ∀ H3, Ek T H2 H3 → Tabs T H3 → ∀ Q3 : VK, (∀ c us H4, Ek T H3 H4 → Tabs T H4 → H4 c = some (.tup us) → R us → Q3 (.ref c) H4) → te σ2 H3 Q3))
    (q : ∀ p H2 ys, Ek T H H2 → Tabs T H2 → H2 p = some (.lst ys) → ys.length = ((List.range (hi - lo).toNat).filter f).length → (∀ y ∈ ys, TupR R H2 y) → Q (.ref p) H2) : tLc (iRng2 ta) g tt te vs σ H Q :=
  ha H (Ex.refl H) _ fun H1 e1 => ⟨lo, hi, rfl, hb, lcKU (walk_range (lo := lo) (n := (hi - lo).toNat)) f hz (hT.ext e1) (fun _ _ => trivial) (fun i H1 x H2 y => by rw [y.1]; exact Ex.refl _)
    (fun i x H2 H3 hi e2 t3 y => by
      obtain ⟨rfl, rfl⟩ := y
      exact hs i _ ((Ek.of e1).trans e2) t3 hi)
    fun p H2 ys _ e2 t2 hp hl hr => q p H2 ys ((Ek.of e1).trans e2) t2 hp hl hr⟩
theorem lcKRV {r : Addr} (hr : H r = some (.rng lo hi)) (hl : Ev tl σ H (.ref r)) (hb : -(2 ^ 62) ≤ lo ∧ lo < 2 ^ 62 ∧ -(2 ^ 62) ≤ hi ∧ hi < 2 ^ 62) (f : Nat → Bool) (v : Nat → V) (hz : (hi - lo).toNat ≤ 40000) (hT : Tabs T H)
    (hs : ∀ (i : Nat) H2, Ek T H H2 → Tabs T H2 → i < (hi - lo).toNat → ∃ σ2, (∀ k : L2.St → Hp → Prop, k σ2 H2 → g (.int (lo + i)) (wipe σ vs) H2 k) ∧ wipe σ2 vs = wipe σ vs ∧ TtK T tt σ2 H2 (f i) ∧ (f i = true → TeK T te σ2 H2 (v i)))
    (q : ∀ p H2, Ek T H H2 → Tabs T H2 → H2 p = some (.lst (given (hi - lo).toNat f v)) → Q (.ref p) H2) : tLc (iRngV tl) g tt te vs σ H Q :=
  hl H (Ex.refl H) _ fun H1 e1 => ⟨r, lo, hi, rfl, e1 _ _ hr, hb, lcK (walk_range (lo := lo) (n := (hi - lo).toNat)) f v hz (hT.ext e1) (fun _ _ => trivial) (fun i H1 x H2 y => by rw [y.1]; exact Ex.refl _)
    (fun i x H2 H3 hi e2 t3 y => by
      obtain ⟨rfl, rfl⟩ := y
      exact hs i _ ((Ek.of e1).trans e2) t3 hi)
    fun p H2 _ e2 t2 hp => q p H2 ((Ek.of e1).trans e2) t2 hp⟩
end
end Hr

set_option exponentiation.threshold 3000
namespace K88
open PySem PySem.Spec PyProof.Rows L2 Hr HrM Evl HrE_thing LamX RZ
theorem ite_no {b : Bool} {A B : Prop} (h : b = false) (k : B) : (if b = true then A else B) := by
  rw [h]
  exact iteF k
theorem ite_yes {b : Bool} {A B : Prop} (h : b = true) (k : A) : (if b = true then A else B) := by
  rw [h]
  exact iteT k
theorem atI_is {α : Type} {xs : List α} {j : Int} {n : Nat} {v : α} (e : j = (n : Int)) (h : xs[n]? = some v) : atI xs j = some v := by
  subst e
  exact atI_nat h
/-- one of the four numbers -/
def sp_num (TL : List (Addr × Str)) (h : Nat → Nat → Nat) : Sp := fun vs H Q _ => ∃ (n S : Int) (N s : Nat), vs = [.int n, .int S] ∧ n = N ∧ S = s ∧ N < 2 ^ 1900 ∧ 1 ≤ s ∧ s ≤ 17 ∧ Tabs TL H ∧ RetVk TL (.int ((h s N : Nat) : Int)) H Q
theorem numOf {TL : List (Addr × Str)} {g h : Nat → Nat → Nat} (e : ∀ s xs, Cas s xs → 1 ≤ s → four g s xs = h s (val s xs)) : ∀ vs H Q E, sp_num TL h vs H Q E → sp_fn TL g vs H Q E := fun _ _ _ _ ⟨n, S, N, s, e1, e2, e3, h1, h2, h3, hT, q⟩ => by
  subst e2 e3
  refine ⟨N, s, e1, h1, h2, h3, hT, fun xs c v => ?_⟩
  rw [e s xs c h2, v]
  exact q
theorem numLS : ∀ s xs, Cas s xs → 1 ≤ s → four gLS s xs = Lf 0 s (val s xs) := fun s xs c h => by
  unfold Lf
  rw [← cc_eq h c rfl]
  rfl
theorem numUS : ∀ s xs, Cas s xs → 1 ≤ s → four gUS s xs = Uf 0 s (val s xs) := fun s xs c h => by
  unfold Uf
  rw [← cc_eq h c rfl]
  rfl
theorem numLP : ∀ s xs, Cas s xs → 1 ≤ s → four gLP s xs = Lf 1 s (val s xs) := fun s xs c h => by
  unfold Lf
  rw [← cc_eq h c rfl]
  rfl
theorem numUP : ∀ s xs, Cas s xs → 1 ≤ s → four gUP s xs = Uf 1 s (val s xs) := fun s xs c h => by
  unfold Uf
  rw [← cc_eq h c rfl]
  rfl
/-- rows of numbers from 0 on -/
def nD (xs : List Nat) : PyData := .tuple ((iz xs).map .int)
theorem nD_dx {H : Hp} {a : Addr} {xs : List Nat} (h : H a = some (.tup (tz xs))) : Dx H (.ref a) (nD xs) := .tup h (DxA.ints _)
theorem nD_items (xs : List Nat) : (itemsD (nD xs)).length = xs.length := by
  show ((iz xs).map PyData.int).length = _
  rw [List.length_map, iz_len]
theorem froms_nat {xs : List Nat} {l : Nat} : fromsD (l : Int) (nD xs) = xs.all fun x => decide (l ≤ x) := by
  show ((iz xs).map PyData.int).all (fromD (l : Int)) = _
  unfold iz
  rw [List.map_map, List.all_map]
  congr 1
  funext x
  show decide ((l : Int) ≤ (x : Int)) = decide (l ≤ x)
  exact decide_eq_decide.mpr (by omega)
theorem froms_nat0 {xs : List Nat} : fromsD 0 (nD xs) = true := by
  have := froms_nat (xs := xs) (l := 0)
  rw [show ((0 : Nat) : Int) = 0 from rfl] at this
  rw [this, List.all_eq_true]
  intro x _
  exact decide_eq_true (Nat.zero_le x)
theorem countsB_nat {xs : List Nat} (hl : xs.length ≤ 16) : countsB (nD xs) = xs.all fun x => decide (1 ≤ x) := by
  unfold countsB
  rw [nD_items, decide_eq_true hl, Bool.and_true]
  exact froms_nat (l := 1)
theorem tz_ix {xs : List Nat} {i : Nat} (h : i < xs.length) : (tz xs)[i]? = some (.int ((xs.getD i 0 : Nat) : Int)) := by
  rw [tz_get, List.getElem?_eq_getElem h, List.getD_eq_getElem?_getD, List.getElem?_eq_getElem h]
  rfl
/-- the word of a certificate -/
def wd (b : Bool) (w : Str) : Str := if b = true then "fits" else w
theorem wd_eq {b : Bool} {w : Str} (h : ¬ w = "fits") : decide (V.str (wd b w) = V.str "fits") = b := by
  cases b with
  | true => exact decide_eq_true rfl
  | false => exact decide_eq_false fun z => h (V.str.inj z)
/-- a certificate begins with its word -/
def RetC (TL : List (Addr × Str)) (b : Bool) (w : Str) (H : Hp) (Q : VK) : Prop := ∀ F t y rest H2, Ek TL H H2 → H2 F = some (.lst (.ref t :: rest)) → H2 t = some (.tup [.str (wd b w), y]) → Q (.ref F) H2
theorem given_nat (n : Nat) (f : Nat → Nat) : given n (fun _ => true) (fun i => .int ((f i : Nat) : Int)) = tz ((List.range n).map f) := by
  rw [given_all]
  unfold tz iz
  rw [List.map_map, List.map_map]
  rfl
theorem map_at {n i : Nat} {f : Nat → Nat} (h : i < n) : (tz ((List.range n).map f))[i]? = some (.int ((f i : Nat) : Int)) := by
  rw [tz_get, List.getElem?_map, List.getElem?_range h]
  rfl
structure Row (xs : List Nat) : Prop where
  l1 : 1 ≤ xs.length
  l16 : xs.length ≤ 16
  small : ∀ k, xs.getD k 0 < 2 ^ 1900
section
variable {P : Program} {w : World} {K : PySem.W.Frag} {mg : Str → Option Value} {base : Heap}
def sp_certS (TL : List (Addr × Str)) : Sp := fun vs H Q _ => ∃ (c : Addr) (xs : List Nat), vs = [.ref c] ∧ H c = some (.tup (tz xs)) ∧ Row xs ∧ (xs.all fun x => decide (1 ≤ x)) = true ∧ Tabs TL H ∧ RetC TL (ftS xs) "size" H Q
theorem ok_counts_certificates (T : Txt K mg) (TB : TabB base mg T.c_greatest_top T.P_greatest_top) : FnOk P w K mg base CX0 6 T.f_counts_certificates T.d_counts_certificates ["counts"] (sp_certS (tabs T)) := by
  have F_check_counts := ok_check_counts (P := P) (w := w) (base := base) T
  have F_lower_sets := (ok_lower_sets (P := P) (w := w) (base := base) T TB).imp (numOf numLS)
  refine T.U_counts_certificates.ok sc_counts_certificates (fun vs H Q E h => ?_) (fun cdv A outer s H vs Q E hr h => ?_)
  · obtain ⟨_, _, rfl, _⟩ := h
    rfl
  · obtain ⟨c, xs, rfl, hc, R, hp, hT, q⟩ := h
    refine ⟨_, (pss_cons (ps_expr (pe_call F_check_counts (hr.mono (by decide)) (by rfl) T.g_check_counts T.k_check_counts T.b_check_counts .nil pass0 (pa_cons (pv 0) pa_nil)))
  (pss_cons (ps_set (i := 1) sc_counts_certificates.nd rfl (.inl rfl) (pe_callTy cr_range2 (by rfl) T.n_range (by decide +kernel) (pa_cons pe_int (pa_cons (pe_callB call_len_seq (by rfl) T.n_len PySem.boot_len (pa_cons (pv 0) pa_nil)) pa_nil))))
  (pss_cons (ps_set (i := 2) sc_counts_certificates.nd rfl (.inr rfl) (pe_callTy call_tuple_of (by rfl) T.n_tuple (by decide +kernel) (pa_cons (pe_lc (own := [("k", 4)]) (g := gName 4) (tt := tYes) rfl sc_counts_certificates.nd (pi_rngV (pv 1)) (blkOk_by (own := [("k", 4)]) (N := ["counts", "places", "lowers", "faults", "k"]) (sc := defScope s_counts_certificates) (by decide +kernel)) (fun _ _ _ _ _ => pg_name (i := 4) sc_counts_certificates.nd rfl (Or.inl rfl)) (fun _ _ _ _ _ => pts_nil) (fun _ _ _ _ _ => (pe_call F_lower_sets (hr.mono (by decide)) (by rfl) T.g_lower_sets T.k_lower_sets T.b_lower_sets .nil pass0 (pa_cons (pe_ix (r := rIxT K) ix_tup (pv 0) (pv 4) (fun _ _ => rfl)) (pa_cons (pe_op op_add (pv 4) pe_int) pa_nil))))) pa_nil)))
  (pss_cons (ps_setLc (i := 3) (own := [("k", 4)]) (g := gName 4) (tt := _) (by rfl) sc_counts_certificates.nd rfl rfl (sw_true rfl rfl rfl (by decide +kernel)) (pi_rngV (pv 1)) (blkOk_by (own := [("k", 4)]) (N := ["counts", "places", "lowers", "faults", "k"]) (sc := defScope s_counts_certificates) (by decide +kernel)) (fun _ _ _ _ _ => pg_name (i := 4) sc_counts_certificates.nd rfl (Or.inl rfl)) (fun _ _ _ _ _ => pts_one (pt_cmpR op_gt (pe_ix (r := rIxT K) ix_tup (pv 2) (pe_op op_sub (pv 4) pe_int) (fun _ _ => rfl)) (pe_ix (r := rIxT K) ix_tup (pv 0) (pe_op op_sub (pv 4) pe_int) (fun _ _ => rfl)) (nomark _))) (fun _ _ _ _ _ => (pe_tup (pa_cons pe_str (pa_cons (pv 4) pa_nil)))))
  (pss_cons (ps_if (pt_cmpR op_gt (pe_callB call_len_seq (by rfl) T.n_len PySem.boot_len (pa_cons (pv 3) pa_nil)) pe_int (nomark _)) (pss_one (ps_ret (pv 3))) pss_nil)
  (pss_one (ps_ret (pe_lst (pa_cons (pe_tup (pa_cons pe_str (pa_cons (pv 2) pa_nil))) pa_nil))))))))), ?_⟩
    have h1 := R.l1
    have h16 := R.l16
    refine ⟨_, rfl, .ref c, nD xs, rfl, nD_dx hc, by rw [nD_items]; omega, by rw [countsB_nat h16]; exact hp, fun H2 e2 => ?_⟩
    refine ⟨_, rfl, c, _, rfl, .inr (SqT.of (e2 _ _ hc)), _, _, rfl, fun r nr => ?_⟩
    rw [tz_len]
    have e3 := e2.trans (Ex.new (o := .rng 1 (xs.length : Int)) nr)
    have hr3 : (upd H2 r (.rng 1 (xs.length : Int))) r = some (.rng 1 (xs.length : Int)) := upd_same
    generalize upd H2 r (.rng 1 (xs.length : Int)) = H3 at e3 hr3 ⊢
    have hc3 := e3 _ _ hc
    have hN : ((xs.length : Int) - 1).toNat = xs.length - 1 := by omega
    dsimp only
    refine r_seq (r_set (r_cb (r_arg ?_)))
    refine lcKRV (T := tabs T) (H := H3) hr3 (ev_var rfl) (by omega) (fun _ => true) (fun i => .int (((Lf 0 (i + 2) (xs.getD (i + 1) 0) : Nat) : Int))) (by omega) (hT.ext e3) ?_ ?_
    · intro i H4 e4 t4 hi
      have ek : (1 : Int) + (i : Int) = ((i + 1 : Nat) : Int) := by omega
      rw [ek]
      refine ⟨[some (.ref c), some (.ref r), none, none, some (.int ((i + 1 : Nat) : Int))], fun k hk => hk, rfl, .yes t4, fun _ => ?_⟩
      intro H5 e5 t5 Q5 q5
      exact ⟨_, rfl, _, rfl, c, tz xs, _, _, rfl, rfl, SqT.of (e5.get (e4.get hc3)), atI_nat (tz_ix (by omega)), _, rfl, _, _, rfl, rfl, _, _, xs.getD (i + 1) 0, i + 2, rfl, rfl, by omega, R.small _, by omega, by omega, t5, fun H6 e6 => q5 H6 e6 (e6.t t5)⟩
    · intro p H4 e4 t4 hp4
      rw [given_nat, hN] at hp4
      refine ⟨p, _, rfl, .inl ⟨SqL.of hp4, fun l nl' => ?_⟩⟩
      generalize hU : (List.range (xs.length - 1)).map (fun i => Lf 0 (i + 2) (xs.getD (i + 1) 0)) = us at hp4 ⊢
      have e5 := ((Ek.of e3).trans e4).ex (Ex.new (o := .tup (tz us)) nl')
      have hl5 : (upd H4 l (.tup (tz us))) l = some (.tup (tz us)) := upd_same
      have hr5 := (Ex.new (o := .tup (tz us)) nl') _ _ (e4.get hr3)
      generalize upd H4 l (.tup (tz us)) = H5 at e5 hl5 hr5 ⊢
      have hc5 := e5.get hc
      dsimp only
      refine r_seq (lc_flt (H := H5) hr5 (ev_var rfl) (by omega) (badS xs) "size" (by omega) ?_ ?_)
      · intro i H6 e6 hi
        have ek : (1 : Int) + (i : Int) = ((i + 1 : Nat) : Int) := by omega
        rw [ek]
        refine ⟨[some (.ref c), some (.ref r), some (.ref l), none, some (.int ((i + 1 : Nat) : Int))], fun k hk => hk, rfl, ?_, fun _ H7 e7 Q7 q7 => ⟨_, rfl, small2, fun t nt => q7 t nt⟩⟩
        intro H7 e7 Q7 q7
        have hu : (tz us)[i]? = some (.int ((Lf 0 (i + 2) (xs.getD (i + 1) 0) : Nat) : Int)) := by rw [← hU]; exact map_at (by omega)
        refine ⟨_, rfl, _, rfl, _, _, rfl, rfl, l, _, _, _, rfl, rfl, SqT.of (e7 _ _ (e6 _ _ hl5)), atI_is (n := i) (by omega) hu, _, rfl, _, rfl, _, _, rfl, rfl, c, _, _, _, rfl, rfl, SqT.of (e7 _ _ (e6 _ _ hc5)), atI_is (n := i) (by omega) (tz_ix (by omega)), _, _, rfl, rfl, _, rfl, ?_⟩
        have : decide (((xs.getD i 0 : Nat) : Int) < ((Lf 0 (i + 2) (xs.getD (i + 1) 0) : Nat) : Int)) = badS xs i := decide_eq_decide.mpr (by omega)
        rw [this]
        exact q7 H7 (Ex.refl _)
      · intro o H6 no e6 ⟨ho0, ho1⟩
        have hl6 := e6 _ _ hl5
        rw [hN] at ho0 ho1
        cases hb : anyN (xs.length - 1) (badS xs) with
        | false =>
          have ho := ho0 hb
          refine ⟨_, rfl, o, _, rfl, .inl (SqL.of ho), _, _, rfl, rfl, _, rfl, ite_no rfl ?_⟩
          refine ⟨_, rfl, small2, fun t nt => ⟨small1, fun p2 np2 => ?_⟩⟩
          have ef : ftS xs = true := by unfold ftS; rw [hb]; rfl
          rw [ef] at q
          exact q p2 t (.ref l) [] _ ((e5.ex e6).ex ((Ex.new nt).trans (Ex.new np2))) upd_same ((Ex.new np2) _ _ upd_same)
        | true =>
          obtain ⟨t, rest, n, ho, hr1, ht⟩ := ho1 hb
          refine ⟨_, rfl, o, _, rfl, .inl (SqL.of ho), _, _, rfl, rfl, _, rfl, ite_yes ?_ ?_⟩
          · exact decide_eq_true (by rw [List.length_cons]; omega)
          have ef : ftS xs = false := by unfold ftS; rw [hb]; rfl
          rw [ef] at q
          exact ⟨_, rfl, q o t _ rest _ (e5.ex e6) ho ht⟩
def RetJ (TL : List (Addr × Str)) (b : Bool) (w : Str) (H : Hp) (Q : VK) : Prop := ∀ t y H2, Ek TL H H2 → H2 t = some (.tup [.str (wd b w), y]) → Q (.ref t) H2
def sp_judgeS (TL : List (Addr × Str)) : Sp := fun vs H Q _ => ∃ (c : Addr) (xs : List Nat), vs = [.ref c] ∧ H c = some (.tup (tz xs)) ∧ Row xs ∧ (xs.all fun x => decide (1 ≤ x)) = true ∧ Tabs TL H ∧ RetJ TL (ftS xs) "size" H Q
theorem ok_judge_counts (T : Txt K mg) (TB : TabB base mg T.c_greatest_top T.P_greatest_top) : FnOk P w K mg base CX0 7 T.f_judge_counts T.d_judge_counts ["counts"] (sp_judgeS (tabs T)) := by
  have F_counts_certificates := ok_counts_certificates (P := P) (w := w) (base := base) T TB
  refine T.U_judge_counts.ok sc_judge_counts (fun vs H Q E h => ?_) (fun cdv A outer s H vs Q E hr h => ?_)
  · obtain ⟨_, _, rfl, _⟩ := h
    rfl
  · obtain ⟨c, xs, rfl, hc, R, hp, hT, q⟩ := h
    refine ⟨_, (pss_one (ps_ret (pe_ix ix_list (pe_call F_counts_certificates (hr.mono (by decide)) (by rfl) T.g_counts_certificates T.k_counts_certificates T.b_counts_certificates .nil pass0 (pa_cons (pv 0) pa_nil)) pe_int (fun _ _ => rfl)))), ?_⟩
    exact ⟨_, rfl, c, xs, rfl, hc, R, hp, hT, fun F t y rest H2 e2 hF ht => ⟨F, _, ((0 : Nat) : Int), .ref t, rfl, rfl, SqL.of hF, atI_nat rfl, q t y H2 e2 ht⟩⟩
/-! products -/
def sp_beg : Sp := fun vs H Q _ => ∃ (a : Addr) (ns : List Nat), vs = [.ref a] ∧ H a = some (.tup (tz ns)) ∧ 1 ≤ ns.length ∧ ns.length ≤ 17 ∧ ns.getD 0 0 = 1 ∧ RetV (.bl true) H Q
theorem ok_begins_with_1 (T : Txt K mg) : FnOk P w K mg base CX0 3 T.f_begins_with_1 T.d_begins_with_1 ["thing"] sp_beg := by
  have F_is_just := ok_is_just (P := P) (w := w) (base := base) T
  refine T.U_begins_with_1.ok sc_begins_with_1 (fun vs H Q E h => ?_) (fun cdv A outer s H vs Q E hr h => ?_)
  · obtain ⟨_, _, rfl, _⟩ := h
    rfl
  · obtain ⟨a, ns, rfl, ha, h1, h17, h0, q⟩ := h
    refine ⟨_, (pss_cons (ps_if (PW.pt (pw_or (pt_not (pt_val (pe_callB call_isi (by rfl) T.n_isinstance (by decide +kernel) (pa_cons (pv 0) (pa_cons (pe_bltn (v := .ty "tuple") (u := .type "tuple") (by rfl) T.n_tuple (by decide +kernel) rfl) pa_nil))))) (pw_or (pt_cmpR op_eq (pe_callB call_len_seq (by rfl) T.n_len PySem.boot_len (pa_cons (pv 0) pa_nil)) pe_int (nomark _)) (pw_or1 (pt_cmpR op_gt (pe_callB call_len_seq (by rfl) T.n_len PySem.boot_len (pa_cons (pv 0) pa_nil)) (pe_op op_add (pe_glob (v := .int 16) rfl T.c_MOST_COUNTS ⟨_, rfl⟩) pe_int) (nomark _)))))) (pss_one (ps_ret pe_bl)) pss_nil)
  (pss_one (ps_ret (pe_call F_is_just (hr.mono (by decide)) (by rfl) T.g_is_just T.k_is_just T.b_is_just .nil pass0 (pa_cons (pe_ix ix_tup (pv 0) pe_int (fun _ _ => rfl)) (pa_cons pe_int pa_nil)))))), ?_⟩
    have hl := tz_len ns
    refine ⟨_, rfl, _, _, _, _, true, rfl, .ty "tuple", .base (.tup ha), kit_ty (by decide +kernel), true, rfl, iteF ?_⟩
    refine ⟨_, rfl, a, _, rfl, .inr (SqT.of ha), rfl, _, rfl, ite_no ?_ ⟨_, rfl, a, _, rfl, .inr (SqT.of ha), _, _, rfl, rfl, _, _, rfl, rfl, _, rfl, ite_no ?_ ?_⟩⟩
    · exact decide_eq_false fun z => by injection z with z; omega
    · exact decide_eq_false (by omega)
    dsimp only [tNext]
    have h00 : (tz ns)[0]? = some (.int 1) := by rw [tz_ix (by omega), h0]; rfl
    exact ⟨_, rfl, a, _, ((0 : Nat) : Int), _, rfl, rfl, SqT.of ha, atI_nat h00, 1, rfl, q⟩
def sp_certP (TL : List (Addr × Str)) : Sp := fun vs H Q _ => ∃ (c : Addr) (xs : List Nat), vs = [.ref c] ∧ H c = some (.tup (tz xs)) ∧ Row xs ∧ xs.getD 0 0 = 1 ∧ Tabs TL H ∧ RetC TL (ftP xs) "degree" H Q
theorem ok_row_certificates (T : Txt K mg) (TB : TabB base mg T.c_greatest_top T.P_greatest_top) : FnOk P w K mg base CX0 6 T.f_row_certificates T.d_row_certificates ["row"] (sp_certP (tabs T)) := by
  have F_begins_with_1 := ok_begins_with_1 (P := P) (w := w) (base := base) T
  have F_are_integers_from := ok_are_integers_from (P := P) (w := w) (base := base) T
  have F_upper_products := (ok_upper_products (P := P) (w := w) (base := base) T TB).imp (numOf numUP)
  refine T.U_row_certificates.ok sc_row_certificates (fun vs H Q E h => ?_) (fun cdv A outer s H vs Q E hr h => ?_)
  · obtain ⟨_, _, rfl, _⟩ := h
    rfl
  · obtain ⟨c, xs, rfl, hc, R, h0, hT, q⟩ := h
    refine ⟨_, (pss_cons (ps_if (PW.pt (pw_or (pt_not (pt_val (pe_call F_begins_with_1 (hr.mono (by decide)) (by rfl) T.g_begins_with_1 T.k_begins_with_1 T.b_begins_with_1 .nil pass0 (pa_cons (pv 0) pa_nil)))) (pw_or1 (pt_not (pt_val (pe_call F_are_integers_from (hr.mono (by decide)) (by rfl) T.g_are_integers_from T.k_are_integers_from T.b_are_integers_from .nil pass0 (pa_cons (pv 0) (pa_cons pe_int pa_nil)))))))) (pss_one ps_never) pss_nil)
  (pss_cons (ps_set (i := 1) sc_row_certificates.nd rfl (.inl rfl) (pe_callTy cr_range2 (by rfl) T.n_range (by decide +kernel) (pa_cons pe_int (pa_cons (pe_op op_sub (pe_callB call_len_seq (by rfl) T.n_len PySem.boot_len (pa_cons (pv 0) pa_nil)) pe_int) pa_nil))))
  (pss_cons (ps_set (i := 2) sc_row_certificates.nd rfl (.inr rfl) (pe_callTy call_tuple_of (by rfl) T.n_tuple (by decide +kernel) (pa_cons (pe_lc (own := [("k", 4)]) (g := gName 4) (tt := tYes) rfl sc_row_certificates.nd (pi_rngV (pv 1)) (blkOk_by (own := [("k", 4)]) (N := ["row", "degrees", "uppers", "faults", "k"]) (sc := defScope s_row_certificates) (by decide +kernel)) (fun _ _ _ _ _ => pg_name (i := 4) sc_row_certificates.nd rfl (Or.inl rfl)) (fun _ _ _ _ _ => pts_nil) (fun _ _ _ _ _ => (pe_call F_upper_products (hr.mono (by decide)) (by rfl) T.g_upper_products T.k_upper_products T.b_upper_products .nil pass0 (pa_cons (pe_ix (r := rIxT K) ix_tup (pv 0) (pv 4) (fun _ _ => rfl)) (pa_cons (pv 4) pa_nil))))) pa_nil)))
  (pss_cons (ps_setLc (i := 3) (own := [("k", 4)]) (g := gName 4) (tt := _) (by rfl) sc_row_certificates.nd rfl rfl (sw_true rfl rfl rfl (by decide +kernel)) (pi_rngV (pv 1)) (blkOk_by (own := [("k", 4)]) (N := ["row", "degrees", "uppers", "faults", "k"]) (sc := defScope s_row_certificates) (by decide +kernel)) (fun _ _ _ _ _ => pg_name (i := 4) sc_row_certificates.nd rfl (Or.inl rfl)) (fun _ _ _ _ _ => pts_one (pt_cmpR op_gt (pe_ix (r := rIxT K) ix_tup (pv 0) (pe_op op_add (pv 4) pe_int) (fun _ _ => rfl)) (pe_ix (r := rIxT K) ix_tup (pv 2) (pe_op op_sub (pv 4) pe_int) (fun _ _ => rfl)) (nomark _))) (fun _ _ _ _ _ => (pe_tup (pa_cons pe_str (pa_cons (pv 4) pa_nil)))))
  (pss_cons (ps_if (pt_cmpR op_gt (pe_callB call_len_seq (by rfl) T.n_len PySem.boot_len (pa_cons (pv 3) pa_nil)) pe_int (nomark _)) (pss_one (ps_ret (pv 3))) pss_nil)
  (pss_one (ps_ret (pe_lst (pa_cons (pe_tup (pa_cons pe_str (pa_cons (pv 2) pa_nil))) pa_nil))))))))), ?_⟩
    have h1 := R.l1
    have h16 := R.l16
    refine ⟨_, rfl, c, _, rfl, hc, by omega, by omega, h0, fun H1 e1 => ⟨_, rfl, iteF ⟨_, rfl, .ref c, _, 0, rfl, nD_dx (e1 _ _ hc), by rw [nD_items]; omega, fun H2 e2 => ⟨_, rfl, ?_⟩⟩⟩⟩
    rw [froms_nat0]
    refine iteF ?_
    dsimp only [tNext]
    have e12 := e1.trans e2
    refine ⟨_, rfl, c, _, rfl, .inr (SqT.of (e12 _ _ hc)), _, _, rfl, rfl, _, _, rfl, fun r nr => ?_⟩
    have en : (((tz xs).length : Nat) : Int) - 1 = (((xs.length - 1 : Nat)) : Int) := by rw [tz_len]; omega
    rw [en]
    have e3 := e12.trans (Ex.new (o := .rng 1 ((xs.length - 1 : Nat) : Int)) nr)
    have hr3 : (upd H2 r (.rng 1 ((xs.length - 1 : Nat) : Int))) r = some (.rng 1 ((xs.length - 1 : Nat) : Int)) := upd_same
    generalize upd H2 r (.rng 1 ((xs.length - 1 : Nat) : Int)) = H3 at e3 hr3 ⊢
    have hc3 := e3 _ _ hc
    have hN : (((xs.length - 1 : Nat) : Int) - 1).toNat = xs.length - 2 := by omega
    dsimp only
    refine r_seq (r_set (r_cb (r_arg ?_)))
    refine lcKRV (T := tabs T) (H := H3) hr3 (ev_var rfl) (by omega) (fun _ => true) (fun i => .int (((Uf 1 (i + 1) (xs.getD (i + 1) 0) : Nat) : Int))) (by omega) (hT.ext e3) ?_ ?_
    · intro i H4 e4 t4 hi
      have ek : (1 : Int) + (i : Int) = ((i + 1 : Nat) : Int) := by omega
      rw [ek]
      refine ⟨[some (.ref c), some (.ref r), none, none, some (.int ((i + 1 : Nat) : Int))], fun k hk => hk, rfl, .yes t4, fun _ => ?_⟩
      intro H5 e5 t5 Q5 q5
      exact ⟨_, rfl, _, rfl, c, tz xs, _, _, rfl, rfl, SqT.of (e5.get (e4.get hc3)), atI_nat (tz_ix (by omega)), _, rfl, _, _, xs.getD (i + 1) 0, i + 1, rfl, rfl, rfl, R.small _, by omega, by omega, t5, fun H6 e6 => q5 H6 e6 (e6.t t5)⟩
    · intro p H4 e4 t4 hp4
      rw [given_nat, hN] at hp4
      refine ⟨p, _, rfl, .inl ⟨SqL.of hp4, fun l nl' => ?_⟩⟩
      generalize hU : (List.range (xs.length - 2)).map (fun i => Uf 1 (i + 1) (xs.getD (i + 1) 0)) = us at hp4 ⊢
      have e5 := ((Ek.of e3).trans e4).ex (Ex.new (o := .tup (tz us)) nl')
      have hl5 : (upd H4 l (.tup (tz us))) l = some (.tup (tz us)) := upd_same
      have hr5 := (Ex.new (o := .tup (tz us)) nl') _ _ (e4.get hr3)
      generalize upd H4 l (.tup (tz us)) = H5 at e5 hl5 hr5 ⊢
      have hc5 := e5.get hc
      dsimp only
      refine r_seq (lc_flt (H := H5) hr5 (ev_var rfl) (by omega) (badP xs) "degree" (by omega) ?_ ?_)
      · intro i H6 e6 hi
        have ek : (1 : Int) + (i : Int) = ((i + 1 : Nat) : Int) := by omega
        rw [ek]
        refine ⟨[some (.ref c), some (.ref r), some (.ref l), none, some (.int ((i + 1 : Nat) : Int))], fun k hk => hk, rfl, ?_, fun _ H7 e7 Q7 q7 => ⟨_, rfl, small2, fun t nt => q7 t nt⟩⟩
        intro H7 e7 Q7 q7
        have hu : (tz us)[i]? = some (.int ((Uf 1 (i + 1) (xs.getD (i + 1) 0) : Nat) : Int)) := by rw [← hU]; exact map_at (by omega)
        refine ⟨_, rfl, _, rfl, _, _, rfl, rfl, c, _, _, _, rfl, rfl, SqT.of (e7 _ _ (e6 _ _ hc5)), atI_is (n := i + 2) (by omega) (tz_ix (by omega)), _, rfl, _, rfl, _, _, rfl, rfl, l, _, _, _, rfl, rfl, SqT.of (e7 _ _ (e6 _ _ hl5)), atI_is (n := i) (by omega) hu, _, _, rfl, rfl, _, rfl, ?_⟩
        have : decide (((Uf 1 (i + 1) (xs.getD (i + 1) 0) : Nat) : Int) < ((xs.getD (i + 2) 0 : Nat) : Int)) = badP xs i := decide_eq_decide.mpr (by omega)
        rw [this]
        exact q7 H7 (Ex.refl _)
      · intro o H6 no e6 ⟨ho0, ho1⟩
        have hl6 := e6 _ _ hl5
        rw [hN] at ho0 ho1
        cases hb : anyN (xs.length - 2) (badP xs) with
        | false =>
          have ho := ho0 hb
          refine ⟨_, rfl, o, _, rfl, .inl (SqL.of ho), _, _, rfl, rfl, _, rfl, ite_no rfl ?_⟩
          refine ⟨_, rfl, small2, fun t nt => ⟨small1, fun p2 np2 => ?_⟩⟩
          have ef : ftP xs = true := by unfold ftP; rw [hb]; rfl
          rw [ef] at q
          exact q p2 t (.ref l) [] _ ((e5.ex e6).ex ((Ex.new nt).trans (Ex.new np2))) upd_same ((Ex.new np2) _ _ upd_same)
        | true =>
          obtain ⟨t, rest, n, ho, hr1, ht⟩ := ho1 hb
          refine ⟨_, rfl, o, _, rfl, .inl (SqL.of ho), _, _, rfl, rfl, _, rfl, ite_yes ?_ ?_⟩
          · exact decide_eq_true (by rw [List.length_cons]; omega)
          have ef : ftP xs = false := by unfold ftP; rw [hb]; rfl
          rw [ef] at q
          exact ⟨_, rfl, q o t _ rest _ (e5.ex e6) ho ht⟩
def sp_judgeP (TL : List (Addr × Str)) : Sp := fun vs H Q _ => ∃ (c : Addr) (xs : List Nat), vs = [.ref c] ∧ H c = some (.tup (tz xs)) ∧ Row xs ∧ xs.getD 0 0 = 1 ∧ Tabs TL H ∧ RetJ TL (ftP xs) "degree" H Q
theorem ok_judge_row (T : Txt K mg) (TB : TabB base mg T.c_greatest_top T.P_greatest_top) : FnOk P w K mg base CX0 7 T.f_judge_row T.d_judge_row ["row"] (sp_judgeP (tabs T)) := by
  have F_row_certificates := ok_row_certificates (P := P) (w := w) (base := base) T TB
  refine T.U_judge_row.ok sc_judge_row (fun vs H Q E h => ?_) (fun cdv A outer s H vs Q E hr h => ?_)
  · obtain ⟨_, _, rfl, _⟩ := h
    rfl
  · obtain ⟨c, xs, rfl, hc, R, hp, hT, q⟩ := h
    refine ⟨_, (pss_one (ps_ret (pe_ix ix_list (pe_call F_row_certificates (hr.mono (by decide)) (by rfl) T.g_row_certificates T.k_row_certificates T.b_row_certificates .nil pass0 (pa_cons (pv 0) pa_nil)) pe_int (fun _ _ => rfl)))), ?_⟩
    exact ⟨_, rfl, c, xs, rfl, hc, R, hp, hT, fun F t y rest H2 e2 hF ht => ⟨F, _, ((0 : Nat) : Int), .ref t, rfl, rfl, SqL.of hF, atI_nat rfl, q t y H2 e2 ht⟩⟩
end
end K88

set_option exponentiation.threshold 3000
namespace K88
open PySem PySem.Spec PyProof.Rows L2 Hr HrM Evl HrE_thing LamX RZ
theorem cut_drop (xs : List V) (n : Nat) : cutV xs (some (n : Int)) none = xs.drop n := by
  unfold cutV
  rw [HT.sIx_nat, HT.sIx_none]
  rw [List.take_of_length_le (by rw [List.length_drop]; omega)]
  by_cases h : n ≤ xs.length
  · rw [Nat.min_eq_left h]
  · rw [Nat.min_eq_right (by omega), List.drop_eq_nil_of_le (Nat.le_refl _), List.drop_eq_nil_of_le (by omega)]
theorem rd_more {H H' : Hp} {a : Addr} {u : HO} (h : Rd H a u) (e : Ex H H') : Rd H' a u := h.elim (fun h => .inl (e _ _ h)) fun ⟨o, h⟩ => .inr ⟨o, e _ _ h⟩
theorem ty_rd {K : PySem.W.Frag} {H : Hp} {a : Addr} {xs : List V} (h : Rd H a (.tup xs)) : TyX K H (.ref a) (.type "tuple") := h.elim (fun h => .base (.tup h)) fun ⟨_, h⟩ => .fTuple h
theorem all_yes (n : Nat) : ((List.range n).map fun _ => true).all id = true := by
  rw [List.all_eq_true]
  intro x hx
  obtain ⟨_, _, rfl⟩ := List.mem_map.mp hx
  rfl
theorem r_orV {t1 t2 : TE} {σ : L2.St} {H : Hp} {Q : VK} {c1 c2 : Bool} (h1 : ∀ Q1 : VK, Q1 (.bl c1) H → t1 σ H Q1) (h2 : c1 = false → ∀ Q1 : VK, Q1 (.bl c2) H → t2 σ H Q1) (q : Q (.bl (c1 || c2)) H) : tOrV t1 t2 σ H Q :=
  h1 _ ⟨c1, rfl, by
    cases c1 with
    | true => exact iteT q
    | false => exact iteF (h2 rfl _ q)⟩
/-- a row with gaps -/
def oV : Option Nat → V
  | none => .non
  | some n => .int (n : Int)
def oVs (xs : List (Option Nat)) : List V := xs.map oV
theorem oVs_len (xs : List (Option Nat)) : (oVs xs).length = xs.length := List.length_map _
theorem oVs_at {xs : List (Option Nat)} {i : Nat} {x : V} (h : (oVs xs)[i]? = some x) : ∃ o, xs[i]? = some o ∧ x = oV o := by
  unfold oVs at h
  rw [List.getElem?_map] at h
  cases e : xs[i]? with
  | none => rw [e] at h; cases h
  | some o => rw [e] at h; cases h; exact ⟨o, rfl, rfl⟩
def gaps (xs : List (Option Nat)) : Nat := (xs.filter (·.isNone)).length
def gapsN (rs : List (Addr × List (Option Nat))) : Nat := (rs.map fun p => gaps p.2).sum
theorem gaps_more {xs : List (Option Nat)} {j : Nat} {o : Option Nat} (h : xs[j]? = some o) : gaps (xs.take (j + 1)) = gaps (xs.take j) + if o.isNone then 1 else 0 := by
  unfold gaps
  rw [List.take_add_one, h, List.filter_append, List.length_append]
  cases o <;> rfl
theorem gapsN_more {rs : List (Addr × List (Option Nat))} {i : Nat} {p : Addr × List (Option Nat)} (h : rs[i]? = some p) : gapsN (rs.take (i + 1)) = gapsN (rs.take i) + gaps p.2 := by
  unfold gapsN
  rw [List.take_add_one, h, List.map_append, List.sum_append]
  simp
theorem gaps_le (xs : List (Option Nat)) : gaps xs ≤ xs.length := List.length_filter_le _ _
inductive Wd
  | sets | sound | spheres | coloured | products | holes
def Wd.s : Wd → Str
  | .sets => "sets" | .sound => "sound" | .spheres => "spheres" | .coloured => "coloured" | .products => "products" | .holes => "holes"
def Wd.n : Wd → Nat
  | .coloured => 3 | .holes => 3 | _ => 2
structure GapAt (H : Hp) (a : Addr) (xs : List (Option Nat)) : Prop where
  rd : Rd H a (.tup (oVs xs))
  l1 : 1 ≤ xs.length
  l16 : xs.length ≤ 16
def rV (rs : List (Addr × List (Option Nat))) : List V := rs.map fun p => .ref p.1
theorem rV_len (rs : List (Addr × List (Option Nat))) : (rV rs).length = rs.length := List.length_map _
theorem rV_at {rs : List (Addr × List (Option Nat))} {i : Nat} {x : V} (h : (rV rs)[i]? = some x) : ∃ p, rs[i]? = some p ∧ x = .ref p.1 := by
  unfold rV at h
  rw [List.getElem?_map] at h
  cases e : rs[i]? with
  | none => rw [e] at h; cases h
  | some o => rw [e] at h; cases h; exact ⟨o, rfl, rfl⟩
structure AskAt (H : Hp) (k : Addr) (w : Wd) (rs : List (Addr × List (Option Nat))) : Prop where
  at_ : (w ≠ .coloured ∧ H k = some (.tup (.str w.s :: rV rs))) ∨ (w = .coloured ∧ ∃ r : Int, H k = some (.tup (.str w.s :: .int r :: rV rs)))
  rows : ∀ p ∈ rs, GapAt H p.1 p.2
  one : w ≠ .holes → ∃ p, rs = [p]
  two : w = .holes → ∃ p q, rs = [p, q]
  prod : w = .products → ∀ p ∈ rs, p.2[0]? = some (some 1)
theorem GapAt.more {H H' : Hp} {a : Addr} {xs : List (Option Nat)} (h : GapAt H a xs) (e : Ex H H') : GapAt H' a xs := ⟨rd_more h.rd e, h.l1, h.l16⟩
theorem AskAt.more {H H' : Hp} {k : Addr} {w : Wd} {rs : List (Addr × List (Option Nat))} (h : AskAt H k w rs) (e : Ex H H') : AskAt H' k w rs :=
  ⟨h.at_.elim (fun ⟨a, b⟩ => .inl ⟨a, e _ _ b⟩) fun ⟨a, r, b⟩ => .inr ⟨a, r, e _ _ b⟩, fun p hp => (h.rows p hp).more e, h.one, h.two, h.prod⟩
theorem AskAt.ne {H : Hp} {k : Addr} {w : Wd} {rs : List (Addr × List (Option Nat))} (h : AskAt H k w rs) : 1 ≤ rs.length ∧ rs.length ≤ 2 := by
  by_cases e : w = .holes
  · obtain ⟨p, q, rfl⟩ := h.two e
    exact ⟨by simp, by simp⟩
  · obtain ⟨p, rfl⟩ := h.one e
    exact ⟨by simp, by simp⟩
/-- the tuple of an ask: its word, its length -/
theorem AskAt.tup {H : Hp} {k : Addr} {w : Wd} {rs : List (Addr × List (Option Nat))} (h : AskAt H k w rs) : ∃ xs, H k = some (.tup (.str w.s :: xs)) ∧ xs.length + 1 = w.n := by
  rcases h.at_ with ⟨a, b⟩ | ⟨rfl, r, b⟩
  · refine ⟨_, b, ?_⟩
    rw [rV_len]
    by_cases e : w = .holes
    · obtain ⟨p, q, rfl⟩ := h.two e
      subst e
      rfl
    · obtain ⟨p, rfl⟩ := h.one e
      cases w <;> first | rfl | exact absurd rfl a | exact absurd rfl e
  · refine ⟨_, b, ?_⟩
    obtain ⟨p, rfl⟩ := h.one (by intro z; cases z)
    rfl
theorem word_col (w : Wd) : decide (V.str w.s = V.str "coloured") = decide (w.n = 3 ∧ w.s = "coloured") := by cases w <;> decide +kernel
section
variable {P : Program} {w : World} {K : PySem.W.Frag} {mg : Str → Option Value} {base : Heap}
theorem ask_key (T : Txt K mg) (w : Wd) : ∃ t, PySem.W.nsIn K T.A_ASKS w.s = some (some (.int (w.n : Nat) t)) := by
  cases w
  · exact ⟨_, T.k_ASKS_sets⟩
  · exact ⟨_, T.k_ASKS_sound⟩
  · exact ⟨_, T.k_ASKS_spheres⟩
  · exact ⟨_, T.k_ASKS_coloured⟩
  · exact ⟨_, T.k_ASKS_products⟩
  · exact ⟨_, T.k_ASKS_holes⟩
def sp_rows_in : Sp := fun vs H Q _ => ∃ (k : Addr) (w : Wd) (rs : List (Addr × List (Option Nat))), vs = [.ref k] ∧ AskAt H k w rs ∧ ∀ p H', Ex H H' → H' p = some (.tup (rV rs)) → Q (.ref p) H'
theorem ok_rows_in (T : Txt K mg) : FnOk P w K mg base CX0 1 T.f_rows_in T.d_rows_in ["ask"] sp_rows_in := by
  refine T.U_rows_in.ok sc_rows_in (fun vs H Q E h => ?_) (fun cdv A outer s H vs Q E hr h => ?_)
  · obtain ⟨_, _, _, rfl, _⟩ := h
    rfl
  · obtain ⟨k, wd, rs, rfl, A, q⟩ := h
    refine ⟨_, (pss_cons (ps_if (pt_cmpR op_eq (pe_ix ix_tup (pv 0) pe_int (fun _ _ => rfl)) pe_str (nomark _)) (pss_one (ps_ret (pe_slice sl_tupN (pv 0) (po_some pe_int) po_none))) pss_nil)
  (pss_one (ps_ret (pe_slice sl_tupN (pv 0) (po_some pe_int) po_none)))), ?_⟩
    rcases A.at_ with ⟨ne, hk⟩ | ⟨rfl, r, hk⟩
    · have hw : decide (V.str wd.s = V.str "coloured") = false := by cases wd <;> first | exact absurd rfl ne | decide +kernel
      refine ⟨_, rfl, k, _, ((0 : Nat) : Int), _, rfl, rfl, SqT.of hk, atI_nat rfl, rfl, _, rfl, ite_no hw ?_⟩
      refine ⟨_, rfl, 1, rfl, k, _, rfl, hk, fun p H' cm => ?_⟩
      have h1 : H' p = some (.tup (cutV _ (some ((1 : Nat) : Int)) none)) := cm.at
      rw [cut_drop] at h1
      exact q p H' cm.ex h1
    · have hw : decide (V.str Wd.coloured.s = V.str "coloured") = true := by decide +kernel
      refine ⟨_, rfl, k, _, ((0 : Nat) : Int), _, rfl, rfl, SqT.of hk, atI_nat rfl, rfl, _, rfl, ite_yes hw ?_⟩
      refine ⟨_, rfl, 2, rfl, k, _, rfl, hk, fun p H' cm => ?_⟩
      have h1 : H' p = some (.tup (cutV _ (some ((2 : Nat) : Int)) none)) := cm.at
      rw [cut_drop] at h1
      exact q p H' cm.ex h1
def sp_gap_row : Sp := fun vs H Q _ => ∃ (a : Addr) (xs : List (Option Nat)), vs = [.ref a] ∧ GapAt H a xs ∧ RetV (.bl true) H Q
theorem el_lcTR {K : PySem.W.Frag} {σ : L2.St} {H : Hp} {te tl : TE} {g : TG} {tt : TT} {vs : List Nat} {xs : List V} {a : Addr} (ha : Rd H a (.tup xs)) (hl : Ev tl σ H (.ref a)) (f : Nat → Bool) (v : Nat → V) (hz : xs.length ≤ 40000)
    (hs : ∀ i x H2, Ex H H2 → xs[i]? = some x → ∃ σ2, (∀ k : L2.St → Hp → Prop, k σ2 H2 → g x (wipe σ vs) H2 k) ∧ wipe σ2 vs = wipe σ vs ∧ EvT tt σ2 H2 (f i) ∧ (f i = true → Ev te σ2 H2 (v i))) :
    EvL (tLc (iTup K tl) g tt te vs) σ H (given xs.length f v) :=
  el_lcW (walk_tup (K := K) (a := a) (xs := xs)) f v hz (fun H1 e R k => hl H1 e _ fun H2 e2 => ⟨a, rfl, ⟨_, .inl (rd_more (rd_more ha e) e2)⟩, k H2 e2⟩) (fun H1 e => .inl (rd_more ha e)) (fun i H1 x H2 y => by rw [y.1]; exact Ex.refl _)
    fun i x H1 H2 hi e y => by
      obtain ⟨rfl, y2⟩ := y
      exact hs i x H2 e y2
theorem ok_is_gap_row (T : Txt K mg) : FnOk P w K mg base CX0 3 T.f_is_gap_row T.d_is_gap_row ["thing"] sp_gap_row := by
  have F_is_integer_from := ok_is_integer_from (P := P) (w := w) (base := base) T
  refine T.U_is_gap_row.ok sc_is_gap_row (fun vs H Q E h => ?_) (fun cdv A outer s H vs Q E hr h => ?_)
  · obtain ⟨_, _, rfl, _⟩ := h
    rfl
  · obtain ⟨a, xs, rfl, ha, q⟩ := h
    refine ⟨_, (pss_cons (ps_if (PW.pt (pw_or (pt_not (pt_val (pe_callB call_isi (by rfl) T.n_isinstance (by decide +kernel) (pa_cons (pv 0) (pa_cons (pe_bltn (v := .ty "tuple") (u := .type "tuple") (by rfl) T.n_tuple (by decide +kernel) rfl) pa_nil))))) (pw_or1 (pt_not (pt_chain op_le op_le pe_int (pe_callB call_len_seq (by rfl) T.n_len PySem.boot_len (pa_cons (pv 0) pa_nil)) (pe_glob (v := .int 16) rfl T.c_MOST_COUNTS ⟨_, rfl⟩)))))) (pss_one (ps_ret pe_bl)) pss_nil)
  (pss_one (ps_ret (pe_callB (cr_all rfl) (by rfl) T.n_all (by decide +kernel) (pa_cons (pe_lc (own := [("item", 1)]) (g := gName 1) (tt := tYes) rfl sc_is_gap_row.nd (pi_tup (pv 0)) (blkOk_by (own := [("item", 1)]) (N := ["thing", "item"]) (sc := defScope s_is_gap_row) (by decide +kernel)) (fun _ _ _ _ _ => pg_name (i := 1) sc_is_gap_row.nd rfl (Or.inl rfl)) (fun _ _ _ _ _ => pts_nil) (fun _ _ _ _ _ => (pe_or (pe_cmpR op_isNo (pv 1) pe_non (nomark _)) (pe_one (pe_call F_is_integer_from (hr.mono (by decide)) (by rfl) T.g_is_integer_from T.k_is_integer_from T.b_is_integer_from .nil pass0 (pa_cons (pv 1) (pa_cons pe_int pa_nil))))))) pa_nil))))), ?_⟩
    have h1 := ha.l1
    have h16 := ha.l16
    refine ⟨_, rfl, _, _, _, _, true, rfl, .ty "tuple", ty_rd ha.rd, kit_ty (by decide +kernel), true, rfl, iteF ?_⟩
    refine ⟨_, rfl, a, _, rfl, .inr (.inl ha.rd), _, _, rfl, rfl, true, ?_, iteT ⟨_, _, rfl, rfl, true, ?_, ?_⟩⟩
    · exact congrArg V.bl (decide_eq_true (by rw [oVs_len]; omega))
    · exact congrArg V.bl (decide_eq_true (by rw [oVs_len]; omega))
    refine iteF ?_
    dsimp only [tNext]
    refine r_ret (r_cb (r_arg ?_))
    refine el_lcTR (K := K) ha.rd (ev_var rfl) (fun _ => true) (fun _ => .bl true) (by rw [oVs_len]; omega) ?_ H (Ex.refl _) _ ?_
    · intro i x H2 e hx
      obtain ⟨o, ho, rfl⟩ := oVs_at hx
      refine ⟨[some (.ref a), some (oV o)], fun k hk => hk, rfl, et_yes, fun _ => ?_⟩
      intro H3 e3 Q3 q3
      refine r_orV (c1 := decide (oV o = .non)) (c2 := true) (fun Q1 q1 => ⟨_, rfl, rfl, q1⟩) (fun hn Q1 q1 => ?_) ?_
      · cases o with
        | none => exact absurd (decide_eq_true (p := oV none = V.non) rfl) (by rw [hn]; exact Bool.false_ne_true)
        | some n =>
          refine ⟨_, rfl, _, .int (n : Int), 0, rfl, .int _, ?_⟩
          rw [fromD_nat n]
          exact q1
      · rw [Bool.or_true]
        exact q3 H3 (Ex.refl _)
    · intro p H2 np e hp
      rw [given_all, bools] at hp
      refine ⟨p, _, rfl, SqL.of hp, ?_⟩
      rw [all_yes]
      exact q H2 e
theorem lc2_gaps {H : Hp} {v : V} {rs : List (Addr × List (Option Nat))} {ti : TI} {Q : VK} (hi : ∀ R, (∀ p H1, Ex H H1 → H1 p = some (.tup (rV rs)) → R (Itt K p) H1) → ti [some v, none, none] H R)
    (hrows : ∀ q ∈ rs, GapAt H q.1 q.2) (hn : rs.length ≤ 2) (q : ∀ D acc H', Ex H H' → H' D = some (.lst acc) → acc.length = gapsN rs → Q (.ref D) H') :
    tLc2 ti (gName 1) tYes (iTup K (tVar 1)) (gName 2) (tTest (tOp rIsNo (tVar 2) (tC .non))) (tVar 2) [1, 2] [2] [some v, none, none] H Q := by
  refine hi _ fun p H0 e0 hp D hD => ?_
  have hrl := rV_len rs
  refine ⟨fun i m H1 => m = rs.length - i ∧ i ≤ rs.length ∧ ∃ acc : List V, Ex H0 H1 ∧ H1 D = some (.lst acc) ∧ acc.length = gapsN (rs.take i) ∧ acc.length ≤ i * 100, ⟨rs.length, rfl, Nat.zero_le _, [], Ex.new hD, upd_same, rfl, Nat.le_refl _⟩, ?_⟩
  rintro i m H1 ⟨rfl, hi, acc, ex, hd, hal, hab⟩
  by_cases hlt : i < rs.length
  · refine .inr ⟨⟨rV rs, (rV rs)[i]'(by omega), SqT.of (ex _ _ hp), by simp [hlt, hrl]⟩, fun H2 => ∃ acc : List V, Ex H0 H2 ∧ H2 D = some (.lst acc) ∧ acc.length = gapsN (rs.take (i + 1)) ∧ acc.length ≤ (i + 1) * 100, fun H2 p2 => ⟨rs.length - (i + 1), by omega, rfl, hlt, p2⟩, fun x H2 y => ?_⟩
    obtain ⟨rfl, y⟩ := y
    obtain ⟨r, hr, rfl⟩ := rV_at (y (rV rs) (SqT.of (ex _ _ hp)))
    have G := (hrows r (List.mem_of_getElem? hr)).more (e0.trans ex)
    have G16 := G.l16
    refine ⟨rfl, ?_⟩
    dsimp only [tYes]
    rw [if_pos rfl]
    refine ⟨_, rfl, r.1, rfl, ⟨_, .inl G.rd⟩, ?_⟩
    have hol := oVs_len r.2
    refine ⟨fun j k H3 => k = r.2.length - j ∧ j ≤ r.2.length ∧ ∃ acc : List V, Ex H0 H3 ∧ H3 D = some (.lst acc) ∧ acc.length = gapsN (rs.take i) + gaps (r.2.take j) ∧ acc.length ≤ i * 100 + j, ⟨r.2.length, rfl, Nat.zero_le _, acc, ex, hd, by rw [hal]; rfl, by omega⟩, ?_⟩
    rintro j k H3 ⟨rfl, hj, acc3, ex3, hd3, hal3, hab3⟩
    have G3 := (hrows r (List.mem_of_getElem? hr)).more (e0.trans ex3)
    by_cases hlt3 : j < r.2.length
    · refine .inr ⟨⟨oVs r.2, (oVs r.2)[j]'(by omega), .inl G3.rd, by simp [hlt3, hol]⟩, fun H4 => ∃ acc : List V, Ex H0 H4 ∧ H4 D = some (.lst acc) ∧ acc.length = gapsN (rs.take i) + gaps (r.2.take (j + 1)) ∧ acc.length ≤ i * 100 + (j + 1), fun H4 p4 => ⟨r.2.length - (j + 1), by omega, rfl, hlt3, p4⟩, fun x H4 y4 => ?_⟩
      obtain ⟨rfl, y4⟩ := y4
      obtain ⟨o, ho, rfl⟩ := oVs_at (y4 (oVs r.2) (.inl G3.rd))
      refine ⟨rfl, ?_⟩
      have gm := gaps_more ho
      refine ⟨_, rfl, rfl, _, rfl, ?_⟩
      cases o with
      | none =>
        refine ite_yes (decide_eq_true rfl) ?_
        refine ⟨_, rfl, acc3, hd3, small1000 (by omega), acc3 ++ [oV none], Ex.mut ex3 hD, upd_same, ?_, ?_⟩
        · rw [List.length_append, List.length_singleton, hal3, gm]
          exact Nat.add_assoc _ _ _
        · rw [List.length_append, List.length_singleton]
          omega
      | some n =>
        refine ite_no (decide_eq_false fun z => nomatch z) ?_
        exact ⟨acc3, ex3, hd3, by rw [hal3, gm]; rfl, by omega⟩
    · have ej : j = r.2.length := by omega
      subst ej
      refine .inl ⟨⟨oVs r.2, .inl G3.rd, by omega⟩, acc3, ex3, hd3, ?_, by omega⟩
      rw [List.take_length] at hal3
      rw [gapsN_more hr]
      exact hal3
  · have e : i = rs.length := by omega
    subst e
    refine .inl ⟨⟨rV rs, SqT.of (ex _ _ hp), by omega⟩, q D acc H1 (e0.trans ex) hd ?_⟩
    rw [List.take_length] at hal
    exact hal
def sp_many : Sp := fun vs H Q _ => ∃ (k : Addr) (wd : Wd) (rs : List (Addr × List (Option Nat))), vs = [.ref k] ∧ AskAt H k wd rs ∧ RetV (.int ((gapsN rs : Nat) : Int)) H Q
theorem ok_many_gaps (T : Txt K mg) : FnOk P w K mg base CX0 2 T.f_many_gaps T.d_many_gaps ["ask"] sp_many := by
  have F_rows_in := ok_rows_in (P := P) (w := w) (base := base) T
  refine T.U_many_gaps.ok sc_many_gaps (fun vs H Q E h => ?_) (fun cdv A outer s H vs Q E hr h => ?_)
  · obtain ⟨_, _, _, rfl, _⟩ := h
    rfl
  · obtain ⟨k, wd, rs, rfl, A, q⟩ := h
    refine ⟨_, (pss_one (ps_ret (pe_callB call_len_seq (by rfl) T.n_len PySem.boot_len (pa_cons (pe_lc2 (wi1 := iTup K (tVar 1)) (own := [("row", 1), ("item", 2)]) (vs1 := [2]) (g := (gName 1)) (tt := tYes) (g1 := (gName 2)) (tt1 := _) rfl sc_many_gaps.nd (pi_tup (pe_call F_rows_in (hr.mono (by decide)) (by rfl) T.g_rows_in T.k_rows_in T.b_rows_in .nil pass0 (pa_cons (pv 0) pa_nil))) (blkOk_by (own := [("row", 1), ("item", 2)]) (N := ["ask", "row", "item"]) (sc := defScope s_many_gaps) (by decide +kernel)) (by decide) (fun _ _ _ _ _ => pg_name (i := 1) sc_many_gaps.nd rfl (Or.inl rfl)) (fun _ _ _ _ _ => pts_nil) (fun _ _ _ _ _ => (pi_tup (pv 1))) (fun _ _ _ _ _ => pg_name (i := 2) sc_many_gaps.nd rfl (Or.inl rfl)) (fun _ _ _ _ _ => pts_one (pt_cmpR op_isNo (pv 2) pe_non (nomark _))) (fun _ _ _ _ _ => (pv 2))) pa_nil)))), ?_⟩
    refine r_ret (r_cb (r_arg ?_))
    refine lc2_gaps (rs := rs) (fun R hR => ⟨_, rfl, k, wd, rs, rfl, A, fun p H' e hp => ⟨p, rfl, ⟨_, SqT.of hp⟩, hR p H' e hp⟩⟩) A.rows A.ne.2 ?_
    · intro D acc H' e hD hl
      refine ⟨D, acc, rfl, .inl (SqL.of hD), ?_⟩
      rw [hl]
      exact q H' e
/-- asks for sets or products with one gap -/
def Good (wd : Wd) (rs : List (Addr × List (Option Nat))) : Prop := (wd = .sets ∨ wd = .products) ∧ gapsN rs = 1
def sp_is_ask : Sp := fun vs H Q _ => ∃ (k : Addr) (wd : Wd) (rs : List (Addr × List (Option Nat))), vs = [.ref k] ∧ AskAt H k wd rs ∧ ∀ b, (Good wd rs → b = true) → RetV (.bl b) H Q
theorem ok_is_ask (T : Txt K mg) {es : Array DictEntry} {n : Nat} (DA : KDict K w T.A_ASKS es n) : FnOk P w K mg base CX0 4 T.f_is_ask T.d_is_ask ["thing"] sp_is_ask := by
  have F_rows_in := ok_rows_in (P := P) (w := w) (base := base) T
  have F_is_gap_row := ok_is_gap_row (P := P) (w := w) (base := base) T
  have F_many_gaps := ok_many_gaps (P := P) (w := w) (base := base) T
  have F_is_integer_from := ok_is_integer_from (P := P) (w := w) (base := base) T
  have F_is_just := ok_is_just (P := P) (w := w) (base := base) T
  refine T.U_is_ask.ok sc_is_ask (fun vs H Q E h => ?_) (fun cdv A outer s H vs Q E hr h => ?_)
  · obtain ⟨_, _, _, rfl, _⟩ := h
    rfl
  · obtain ⟨k, wd, rs, rfl, A, q⟩ := h
    refine ⟨_, (pss_cons (ps_if (PW.pt (pw_or (pt_not (pt_val (pe_callB call_isi (by rfl) T.n_isinstance (by decide +kernel) (pa_cons (pv 0) (pa_cons (pe_bltn (v := .ty "tuple") (u := .type "tuple") (by rfl) T.n_tuple (by decide +kernel) rfl) pa_nil))))) (pw_or (pt_cmpR op_eq (pe_callB call_len_seq (by rfl) T.n_len PySem.boot_len (pa_cons (pv 0) pa_nil)) pe_int (nomark _)) (pw_or1 (pt_not (pt_val (pe_callB call_isi (by rfl) T.n_isinstance (by decide +kernel) (pa_cons (pe_ix ix_tup (pv 0) pe_int (fun _ _ => rfl)) (pa_cons (pe_bltn (v := .ty "str") (u := .type "str") (by rfl) T.n_str (by decide +kernel) rfl) pa_nil))))))))) (pss_one (ps_ret pe_bl)) pss_nil)
  (pss_cons (ps_if (PW.pt (pw_or (pt_cmpR (op_notIn_kd DA) (pe_ix ix_tup (pv 0) pe_int (fun _ _ => rfl)) (pe_glob (v := .ref T.A_ASKS) (by rfl) T.g_ASKS rfl) (by rfl)) (pw_or1 (pt_cmpR op_ne (pe_callB call_len_seq (by rfl) T.n_len PySem.boot_len (pa_cons (pv 0) pa_nil)) (pe_ix ix_kdict (pe_glob (v := .ref T.A_ASKS) (by rfl) T.g_ASKS rfl) (pe_ix ix_tup (pv 0) pe_int (fun _ _ => rfl)) (fun _ _ => rfl)) (nomark _))))) (pss_one (ps_ret pe_bl)) pss_nil)
  (pss_cons (ps_set (i := 1) sc_is_ask.nd rfl (.inl rfl) (pe_call F_rows_in (hr.mono (by decide)) (by rfl) T.g_rows_in T.k_rows_in T.b_rows_in .nil pass0 (pa_cons (pv 0) pa_nil)))
  (pss_cons (ps_if (PW.pt (pw_or (pt_not (pt_val (pe_callB (cr_all rfl) (by rfl) T.n_all (by decide +kernel) (pa_cons (pe_lc (own := [("row", 2)]) (g := gName 2) (tt := tYes) rfl sc_is_ask.nd (pi_tup (pv 1)) (blkOk_by (own := [("row", 2)]) (N := ["thing", "rows", "row"]) (sc := defScope s_is_ask) (by decide +kernel)) (fun _ _ _ _ _ => pg_name (i := 2) sc_is_ask.nd rfl (Or.inl rfl)) (fun _ _ _ _ _ => pts_nil) (fun _ _ _ _ _ => (pe_call F_is_gap_row (hr.mono (by decide)) (by rfl) T.g_is_gap_row T.k_is_gap_row T.b_is_gap_row .nil pass0 (pa_cons (pv 2) pa_nil)))) pa_nil)))) (pw_or1 (pt_cmpR op_ne (pe_callB call_len_seq (by rfl) T.n_len PySem.boot_len (pa_cons (pe_ix ix_tup (pv 1) pe_int (fun _ _ => rfl)) pa_nil)) (pe_callB call_len_seq (by rfl) T.n_len PySem.boot_len (pa_cons (pe_ix ix_tup (pv 1) (pe_un un_neg pe_int) (fun _ _ => rfl)) pa_nil)) (nomark _))))) (pss_one (ps_ret pe_bl)) pss_nil)
  (pss_cons (ps_if (PW.pt (pw_and (pt_cmpR op_eq (pe_ix ix_tup (pv 0) pe_int (fun _ _ => rfl)) pe_str (nomark _)) (pw_and1 (pt_not (pt_val (pe_call F_is_integer_from (hr.mono (by decide)) (by rfl) T.g_is_integer_from T.k_is_integer_from T.b_is_integer_from .nil pass0 (pa_cons (pe_ix ix_tup (pv 0) pe_int (fun _ _ => rfl)) (pa_cons pe_int pa_nil)))))))) (pss_one (ps_ret pe_bl)) pss_nil)
  (pss_cons (ps_if (PW.pt (pw_and (pt_cmpR op_eq (pe_ix ix_tup (pv 0) pe_int (fun _ _ => rfl)) pe_str (nomark _)) (pw_and1 (pt_cmpR op_gt (pe_ix ix_tup (pv 0) pe_int (fun _ _ => rfl)) (pe_glob (v := .int 8) rfl T.c_MOST_COLOURS ⟨_, rfl⟩) (nomark _))))) (pss_one (ps_ret pe_bl)) pss_nil)
  (pss_cons (ps_if (PW.pt (pw_and (pt_cmpR op_eq (pe_ix ix_tup (pv 0) pe_int (fun _ _ => rfl)) pe_str (nomark _)) (pw_and1 (pt_not (pt_val (pe_call F_is_just (hr.mono (by decide)) (by rfl) T.g_is_just T.k_is_just T.b_is_just .nil pass0 (pa_cons (pe_ix ix_tup (pe_ix ix_tup (pv 1) pe_int (fun _ _ => rfl)) pe_int (fun _ _ => rfl)) (pa_cons pe_int pa_nil)))))))) (pss_one (ps_ret pe_bl)) pss_nil)
  (pss_one (ps_ret (pe_chain op_le op_le pe_int (pe_call F_many_gaps (hr.mono (by decide)) (by rfl) T.g_many_gaps T.k_many_gaps T.b_many_gaps .nil pass0 (pa_cons (pv 0) pa_nil)) (pe_glob (v := .int 2) rfl T.c_MOST_GAPS ⟨_, rfl⟩))))))))))), ?_⟩
    obtain ⟨xs, hk, hxl⟩ := A.tup
    obtain ⟨t, hkey⟩ := ask_key T wd
    have hfirst : atI (.str wd.s :: xs) ((0 : Nat) : Int) = some (V.str wd.s) := atI_nat rfl
    refine ⟨_, rfl, _, _, _, _, true, rfl, .ty "tuple", .base (.tup hk), kit_ty (by decide +kernel), true, rfl, iteF ?_⟩
    refine ⟨_, rfl, k, _, rfl, .inr (SqT.of hk), rfl, _, rfl, ite_no ?_ ?_⟩
    · exact decide_eq_false fun z => by injection z with z; rw [List.length_cons] at z; omega
    refine ⟨_, rfl, k, _, ((0 : Nat) : Int), _, rfl, rfl, SqT.of hk, hfirst, _, _, _, _, true, rfl, .ty "str", .base (.str _), kit_ty (by decide +kernel), true, rfl, iteF ?_⟩
    dsimp only [tNext]
    refine ⟨_, rfl, k, _, ((0 : Nat) : Int), _, rfl, rfl, SqT.of hk, hfirst, wd.s, _, rfl, rfl, hkey, _, rfl, iteF ?_⟩
    refine ⟨_, rfl, k, _, rfl, .inr (SqT.of hk), _, rfl, k, _, ((0 : Nat) : Int), _, rfl, rfl, SqT.of hk, hfirst, T.A_ASKS, wd.s, .int (wd.n : Nat), rfl, rfl, ⟨es, n, _, DA.at_, DA.lit, hkey, ⟨t, rfl⟩⟩, rfl, _, rfl, ite_no ?_ ?_⟩
    · rw [decide_eq_true (by rw [List.length_cons, hxl])]
      rfl
    dsimp only [tNext]
    refine ⟨_, rfl, k, wd, rs, rfl, A, fun p H1 e1 hp => ?_⟩
    have A1 := A.more e1
    have hk1 := e1 _ _ hk
    dsimp only [gName]
    refine r_cb (r_arg ?_)
    refine el_lcT (K := K) hp (ev_var rfl) (fun _ => true) (fun _ => .bl true) (by rw [rV_len]; have := A.ne; omega) ?_ H1 (Ex.refl _) _ ?_
    · intro i x H2 e hx
      obtain ⟨r, hr, rfl⟩ := rV_at hx
      refine ⟨[some (.ref k), some (.ref p), some (.ref r.1)], fun k hk => hk, rfl, et_yes, fun _ => ?_⟩
      intro H3 e3 Q3 q3
      exact ⟨_, rfl, r.1, r.2, rfl, (A1.rows r (List.mem_of_getElem? hr)).more (e.trans e3), q3⟩
    intro l H2 nl e2 hl
    rw [given_all, bools] at hl
    refine ⟨l, _, rfl, SqL.of hl, _, rfl, ?_⟩
    rw [all_yes]
    refine iteF ?_
    have A2 := A1.more e2
    have hk2 := e2 _ _ hk1
    have hp2 := e2 _ _ hp
    obtain ⟨p0, pl, h0, hla, m0, ml, hone⟩ : ∃ p0 pl, (rV rs)[0]? = some (.ref p0.1) ∧ atI (rV rs) (-1) = some (.ref pl.1) ∧ p0 ∈ rs ∧ pl ∈ rs ∧ (wd ≠ .holes → rs = [p0] ∧ pl = p0) := by
      by_cases e : wd = .holes
      · obtain ⟨a, b, rfl⟩ := A.two e
        exact ⟨a, b, rfl, rfl, .head _, .tail _ (.head _), fun h => absurd e h⟩
      · obtain ⟨a, rfl⟩ := A.one e
        exact ⟨a, a, rfl, rfl, .head _, .head _, fun _ => ⟨rfl, rfl⟩⟩
    refine ⟨_, rfl, p, _, ((0 : Nat) : Int), _, rfl, rfl, SqT.of hp2, atI_nat h0, p0.1, _, rfl, .inr (.inl (A2.rows _ m0).rd), ?_⟩
    refine ⟨_, rfl, _, rfl, p, _, (-1), _, rfl, rfl, SqT.of hp2, hla, pl.1, _, rfl, .inr (.inl (A2.rows _ ml).rd), rfl, _, rfl, ite2 (fun ed => ?_) (fun ed => ?_)⟩
    · refine q false (fun g => ?_) H2 (e1.trans e2)
      obtain ⟨_, rfl⟩ := hone (by rintro rfl; rcases g.1 with z | z <;> cases z)
      rw [decide_eq_true rfl] at ed
      cases ed
    dsimp only [tNext]
    have e12 := e1.trans e2
    have fin : ∀ (D : Ends) (H2 : Hp), D.rt = Q → Ex H H2 → tRet (tChain (rI0 fun i j => .bl (decide (i ≤ j))) (rI0 fun i j => .bl (decide (i ≤ j))) (tC (.int 1)) (tCall sp_many [] E0 (tCons (tVar 0) tNil)) (tC (.int 2))) D [some (.ref k), some (.ref p), none] H2 := by
      intro D H2 hD e12
      have A2 := A.more e12
      refine ⟨_, rfl, k, wd, rs, rfl, A2, fun H3 e3 => ⟨_, _, rfl, rfl, _, rfl, ite2 (fun e5 => ⟨_, _, rfl, rfl, ?_⟩) (fun e5 => ?_)⟩⟩
      · rw [hD]
        refine q _ (fun g => ?_) H3 (e12.trans e3)
        rw [g.2]
        rfl
      · rw [hD]
        refine q false (fun g => ?_) H3 (e12.trans e3)
        rw [g.2] at e5
        exact absurd (by decide) e5
    by_cases hc : wd = .coloured
    · subst hc
      have bad : ∀ b, RetV (.bl b) H Q := fun b => q b fun g => by rcases g.1 with z | z <;> cases z
      obtain ⟨r, hk3⟩ : ∃ r : Int, H k = some (.tup (.str Wd.coloured.s :: .int r :: rV rs)) := by
        rcases A.at_ with ⟨a, _⟩ | ⟨_, b⟩
        · exact absurd rfl a
        · exact b
      have hk4 := e12 _ _ hk3
      have hw : decide (V.str Wd.coloured.s = V.str "coloured") = true := by decide +kernel
      have hp : decide (V.str Wd.coloured.s = V.str "products") = false := by decide +kernel
      refine ⟨_, rfl, k, _, ((0 : Nat) : Int), _, rfl, rfl, SqT.of hk2, hfirst, rfl, _, rfl, ite_yes hw ?_⟩
      refine ⟨_, rfl, k, _, ((1 : Nat) : Int), .int r, rfl, rfl, SqT.of hk4, atI_nat rfl, .int r, .int r, 1, rfl, .int r, _, rfl, ?_⟩
      cases hf : fromD 1 (.int r) with
      | false => exact iteT (bad false H2 e12)
      | true =>
        refine iteF ?_
        dsimp only [tNext]
        refine ⟨_, rfl, k, _, ((0 : Nat) : Int), _, rfl, rfl, SqT.of hk2, hfirst, rfl, _, rfl, ite_yes hw ?_⟩
        refine ⟨_, rfl, k, _, ((1 : Nat) : Int), .int r, rfl, rfl, SqT.of hk4, atI_nat rfl, _, _, rfl, rfl, _, rfl, ite2 (fun e5 => bad false H2 e12) (fun e5 => ?_)⟩
        dsimp only [tNext]
        refine ⟨_, rfl, k, _, ((0 : Nat) : Int), _, rfl, rfl, SqT.of hk2, hfirst, rfl, _, rfl, ite_no hp ?_⟩
        exact fin _ _ rfl e12
    · have hw : decide (V.str wd.s = V.str "coloured") = false := by cases wd <;> first | exact absurd rfl hc | decide +kernel
      refine ⟨_, rfl, k, _, ((0 : Nat) : Int), _, rfl, rfl, SqT.of hk2, hfirst, rfl, _, rfl, ite_no hw ?_⟩
      dsimp only [tNext]
      refine ⟨_, rfl, k, _, ((0 : Nat) : Int), _, rfl, rfl, SqT.of hk2, hfirst, rfl, _, rfl, ite_no hw ?_⟩
      dsimp only [tNext]
      by_cases hpr : wd = .products
      · subst hpr
        have hp : decide (V.str Wd.products.s = V.str "products") = true := by decide +kernel
        have G0 := A2.rows _ m0
        have hx := A.prod rfl _ m0
        have hx2 : (oVs p0.2)[0]? = some (.int 1) := by
          unfold oVs
          rw [List.getElem?_map, hx]
          rfl
        refine ⟨_, rfl, k, _, ((0 : Nat) : Int), _, rfl, rfl, SqT.of hk2, hfirst, rfl, _, rfl, ite_yes hp ?_⟩
        refine ⟨_, rfl, p, _, ((0 : Nat) : Int), _, rfl, rfl, SqT.of hp2, atI_nat h0, p0.1, _, ((0 : Nat) : Int), _, rfl, rfl, .inl G0.rd, atI_nat hx2, 1, rfl, fun H3 e3 => ⟨_, rfl, iteF ?_⟩⟩
        exact fin _ _ rfl (e12.trans e3)
      · have hp : decide (V.str wd.s = V.str "products") = false := by cases wd <;> first | exact absurd rfl hpr | decide +kernel
        refine ⟨_, rfl, k, _, ((0 : Nat) : Int), _, rfl, rfl, SqT.of hk2, hfirst, rfl, _, rfl, ite_no hp ?_⟩
        exact fin _ _ rfl e12
end
end K88

set_option exponentiation.threshold 3000
namespace K88
open PySem PySem.Spec PyProof.Rows L2 Hr HrM Evl HrE_thing LamX RZ
def fill (xs : List (Option Nat)) (x : Nat) : List Nat := xs.map fun o => o.getD x
theorem fill_len (xs : List (Option Nat)) (x : Nat) : (fill xs x).length = xs.length := List.length_map _
theorem fill_more {xs : List (Option Nat)} {x j : Nat} {o : Option Nat} (h : xs[j]? = some o) : fill (xs.take (j + 1)) x = fill (xs.take j) x ++ [o.getD x] := by
  unfold fill
  rw [List.take_add_one, h, List.map_append]
  rfl
theorem tz_app (xs : List Nat) (a : Nat) : tz (xs ++ [a]) = tz xs ++ [.int (a : Int)] := tz_snoc xs a
theorem gaps_before {xs : List (Option Nat)} {j : Nat} (h : xs[j]? = some none) (h1 : gaps xs = 1) : gaps (xs.take j) = 0 := by
  have e : xs = xs.take (j + 1) ++ xs.drop (j + 1) := (List.take_append_drop _ _).symm
  have g := gaps_more h
  have : gaps xs = gaps (xs.take (j + 1)) + gaps (xs.drop (j + 1)) := by
    conv => lhs; rw [e]
    unfold gaps
    rw [List.filter_append, List.length_append]
  simp only [Option.isNone_none, if_true] at g
  omega
section
variable {P : Program} {w : World} {K : PySem.W.Frag} {mg : Str → Option Value} {base : Heap}
def sp_check_ask : Sp := fun vs H Q _ => ∃ (k : Addr) (wd : Wd) (rs : List (Addr × List (Option Nat))), vs = [.ref k] ∧ AskAt H k wd rs ∧ Good wd rs ∧ RetV .non H Q
theorem ok_check_ask (T : Txt K mg) {es : Array DictEntry} {n : Nat} (DA : KDict K w T.A_ASKS es n) : FnOk P w K mg base CX0 5 T.f_check_ask T.d_check_ask ["ask"] sp_check_ask := by
  have F_is_ask := ok_is_ask (P := P) (w := w) (base := base) T DA
  refine T.U_check_ask.ok sc_check_ask (fun vs H Q E h => ?_) (fun cdv A outer s H vs Q E hr h => ?_)
  · obtain ⟨_, _, _, rfl, _⟩ := h
    rfl
  · obtain ⟨k, wd, rs, rfl, A, g, q⟩ := h
    refine ⟨_, (pss_one (ps_if (pt_not (pt_val (pe_call F_is_ask (hr.mono (by decide)) (by rfl) T.g_is_ask T.k_is_ask T.b_is_ask .nil pass0 (pa_cons (pv 0) pa_nil)))) (pss_one ps_never) pss_nil)), ?_⟩
    refine ⟨_, rfl, k, wd, rs, rfl, A, fun b hb H1 e1 => ⟨_, rfl, ?_⟩⟩
    rw [hb g]
    exact iteF (q H1 e1)
def sp_filled : Sp := fun vs H Q _ => ∃ (k n : Addr) (wd : Wd) (a : Addr) (xs : List (Option Nat)) (x : Nat), vs = [.ref k, .ref n] ∧ AskAt H k wd [(a, xs)] ∧ gaps xs = 1 ∧ H n = some (.tup [.int (x : Int)]) ∧
  ∀ L c H', Ex H H' → H' L = some (.lst [.ref c]) → H' c = some (.tup (tz (fill xs x))) → Q (.ref L) H'
theorem ok_filled (T : Txt K mg) : FnOk P w K mg base CX0 2 T.f_filled T.d_filled ["ask", "numbers"] sp_filled := by
  have F_rows_in := ok_rows_in (P := P) (w := w) (base := base) T
  refine T.U_filled.ok sc_filled (fun vs H Q E h => ?_) (fun cdv A outer s H vs Q E hr h => ?_)
  · obtain ⟨_, _, _, _, _, _, rfl, _⟩ := h
    rfl
  · obtain ⟨k, n, wd, a, xs, x, rfl, A, hg, hn, q⟩ := h
    refine ⟨_, (pss_cons (ps_set (i := 2) sc_filled.nd rfl (.inl rfl) (pe_lst pa_nil))
  (pss_cons (ps_set (i := 3) sc_filled.nd rfl (.inl rfl) pe_int)
  (pss_cons (ps_for PassesOwn.never rfl (pi_tup (pe_call F_rows_in (hr.mono (by decide)) (by rfl) T.g_rows_in T.k_rows_in T.b_rows_in .nil pass0 (pa_cons (pv 0) pa_nil))) (pg_name (i := 4) sc_filled.nd rfl (.inl rfl)) (pss_cons (ps_set (i := 5) sc_filled.nd rfl (.inl rfl) (pe_lst pa_nil))
  (pss_cons (ps_for PassesOwn.never rfl (pi_tup (pv 4)) (pg_name (i := 6) sc_filled.nd rfl (.inl rfl)) (pss_one (ps_if (pt_cmpR op_isNo (pv 6) pe_non (nomark _)) (pss_cons (ps_expr (pe_bm PySem.F.plainAttrs_list PySem.F.slot_list_append PySem.F.type_list_append mt_append (pv 5) (pa_cons (pe_ix ix_tup (pv 1) (pv 3) (fun _ _ => rfl)) pa_nil)))
  (pss_one (ps_set (i := 3) sc_filled.nd rfl (.inl rfl) (pe_op op_add (pv 3) pe_int)))) (pss_one (ps_expr (pe_bm PySem.F.plainAttrs_list PySem.F.slot_list_append PySem.F.type_list_append mt_append (pv 5) (pa_cons (pv 6) pa_nil)))))))
  (pss_one (ps_expr (pe_bm PySem.F.plainAttrs_list PySem.F.slot_list_append PySem.F.type_list_append mt_append (pv 2) (pa_cons (pe_callTy call_tuple_of (by rfl) T.n_tuple (by decide +kernel) (pa_cons (pv 5) pa_nil)) pa_nil)))))))
  (pss_one (ps_ret (pv 2)))))), ?_⟩
    have G := A.rows _ (.head _)
    have G16 := G.l16
    have G16' : xs.length ≤ 16 := G16
    refine ⟨by show 0 ≤ sizeLine; decide, fun R nR => ?_⟩
    have e0 : Ex H (upd H R (.lst [])) := Ex.new nR
    refine ⟨_, rfl, k, wd, [(a, xs)], rfl, A.more e0, fun p H1 e1 hp => ⟨p, rfl, ⟨_, SqT.of hp⟩, ?_⟩⟩
    have e01 := e0.trans e1
    have hR1 : H1 R = some (.lst []) := e1 _ _ upd_same
    refine for_tup (a := p) (xs := rV [(a, xs)]) (fun j σ' H' => ∃ u y4 y5 y6, σ' = [some (.ref k), some (.ref n), some (.ref R), some (.int u), y4, y5, y6] ∧ Ex H H' ∧ H' p = some (.tup (rV [(a, xs)])) ∧ (j = 0 → u = 0 ∧ H' R = some (.lst [])) ∧ (j = 1 → ∃ c, H' R = some (.lst [.ref c]) ∧ H' c = some (.tup (tz (fill xs x)))))
      ⟨_, none, none, none, rfl, e01, hp, fun _ => ⟨rfl, hR1⟩, fun z => nomatch z⟩ ?_ ?_ ?_
    · rintro j σ' H' _ ⟨u, y4, y5, y6, rfl, e, hp', _⟩
      exact SqT.of hp'
    · rintro j y σ' H' hy ⟨u, y4, y5, y6, rfl, e, hp', h0, _⟩
      have hj : j = 0 ∧ y = .ref a := by
        match j, hy with
        | 0, hy => exact ⟨rfl, (Option.some.inj hy).symm⟩
        | j + 1, hy => simp [rV] at hy
      obtain ⟨rfl, rfl⟩ := hj
      obtain ⟨rfl, hR⟩ := h0 rfl
      refine ⟨Nat.zero_le _, fun I nI => ?_⟩
      have nIH : H I = none := fresh_back e nI
      have eI := Ex.new (o := .lst []) nI
      have hIR : R ≠ I := ne_of_none hR nI
      have hpI : p ≠ I := ne_of_none hp' nI
      have hpR : p ≠ R := fun z => by
        subst z
        rw [hR] at hp'
        cases hp'
      refine ⟨_, rfl, a, rfl, ⟨_, .inl (rd_more G.rd (e.trans eI))⟩, ?_⟩
      refine for_tup (a := a) (xs := oVs xs) (fun j σ' H' => ∃ y6, σ' = [some (.ref k), some (.ref n), some (.ref R), some (.int ((gaps (xs.take j) : Nat) : Int)), some (.ref a), some (.ref I), y6] ∧ Ex H H' ∧ H' p = some (.tup (rV [(a, xs)])) ∧ H' R = some (.lst []) ∧ H' I = some (.lst (tz (fill (xs.take j) x))))
        ⟨_, rfl, e.trans eI, eI _ _ hp', eI _ _ hR, upd_same⟩ ?_ ?_ ?_
      · rintro j σ' H2 _ ⟨y6, rfl, e2, _⟩
        exact .inl (rd_more G.rd e2)
      · rintro j v σ' H2 hv ⟨y6, rfl, e2, hp2, hR2, hI2⟩
        obtain ⟨o, ho, rfl⟩ := oVs_at hv
        have hjl := (List.getElem?_eq_some_iff.mp ho).1
        have gm := gaps_more ho
        have fm := fill_more (x := x) ho
        have hsz : (tz (fill (xs.take j) x)).length < sizeLine := by
          rw [tz_len, fill_len, List.length_take]
          exact small1000 (by omega)
        have keep : ∀ v : List V, Ex H (upd H2 I (.lst v)) ∧ (upd H2 I (.lst v)) p = some (.tup (rV [(a, xs)])) ∧ (upd H2 I (.lst v)) R = some (.lst []) := fun v => ⟨Ex.mut e2 nIH, by rw [upd_ne hpI]; exact hp2, by rw [upd_ne hIR]; exact hR2⟩
        cases o with
        | none =>
          have g0 := gaps_before ho hg
          have ix : atI [V.int (x : Int)] ((gaps (xs.take j) : Nat) : Int) = some (.int (x : Int)) := by
            rw [g0]
            exact atI_nat rfl
          refine ⟨_, rfl, rfl, _, rfl, ite_yes (decide_eq_true rfl) ?_⟩
          refine ⟨_, rfl, .inl ⟨rfl, _, SqL.of hI2⟩, _, rfl, _, rfl, n, _, _, _, rfl, rfl, SqT.of (e2 _ _ hn), ix, I, _, _, rfl, rfl, hI2, hsz, ?_⟩
          obtain ⟨k1, k2, k3⟩ := keep (tz (fill (xs.take j) x) ++ [.int (x : Int)])
          refine ⟨_, rfl, _, _, rfl, rfl, some (oV none), ?_, k1, k2, k3, ?_⟩
          · rw [gm]
            rfl
          · rw [fm, tz_app, upd_same]
            rfl
        | some m =>
          refine ⟨_, rfl, rfl, _, rfl, ite_no (decide_eq_false fun z => nomatch z) ?_⟩
          refine ⟨_, rfl, .inl ⟨rfl, _, SqL.of hI2⟩, _, rfl, I, _, _, rfl, rfl, hI2, hsz, ?_⟩
          obtain ⟨k1, k2, k3⟩ := keep (tz (fill (xs.take j) x) ++ [.int (m : Int)])
          refine ⟨some (oV (some m)), ?_, k1, k2, k3, ?_⟩
          · rw [gm]
            rfl
          · rw [fm, tz_app, upd_same]
            rfl
      · rintro σ' H2 ⟨y6, rfl, e2, hp2, hR2, hI2⟩
        rw [oVs_len, List.take_length] at hI2
        refine ⟨_, rfl, .inl ⟨rfl, _, SqL.of hR2⟩, _, rfl, I, _, rfl, .inl ⟨SqL.of hI2, fun c nc => ?_⟩⟩
        have ec := Ex.new (o := .tup (tz (fill xs x))) nc
        refine ⟨R, _, _, rfl, rfl, ec _ _ hR2, by show 0 < sizeLine; decide, ?_⟩
        have hcR : c ≠ R := (ne_of_none hR2 nc).symm
        refine ⟨_, _, _, _, rfl, Ex.mut (e2.trans ec) nR, by rw [upd_ne hpR]; exact ec _ _ hp2, (fun z => nomatch z), fun _ => ⟨c, upd_same, by rw [upd_ne hcR]; exact upd_same⟩⟩
    · rintro σ' H' ⟨u, y4, y5, y6, rfl, e, hp', _, h1⟩
      obtain ⟨c, hR, hc⟩ := h1 rfl
      exact ⟨_, rfl, q R c H' e hR hc⟩
end
end K88

set_option exponentiation.threshold 3000
namespace K88
open PySem PySem.Spec PyProof.Rows L2 Hr HrM Evl HrE_thing LamX RZ
/-- does a row without gaps fit -/
noncomputable def fitB : Wd → List Nat → Bool
  | .products, xs => ftP xs
  | _, xs => (xs.all fun x => decide (1 ≤ x)) && ftS xs
theorem size_ne : ¬ ("size" : Str) = "fits" := by decide +kernel
theorem degree_ne : ¬ ("degree" : Str) = "fits" := by decide +kernel
section
variable {P : Program} {w : World} {K : PySem.W.Frag} {mg : Str → Option Value} {base : Heap}
def sp_cf (TL : List (Addr × Str)) : Sp := fun vs H Q _ => ∃ (k L c : Addr) (ys : List V) (xs : List Nat), vs = [.ref k, .ref L] ∧ H k = some (.tup (.str "sets" :: ys)) ∧ H L = some (.lst [.ref c]) ∧ H c = some (.tup (tz xs)) ∧ Row xs ∧ (xs.all fun x => decide (1 ≤ x)) = true ∧ Tabs TL H ∧ RetJ TL (ftS xs) "size" H Q
theorem ok_certificate_for (T : Txt K mg) (TB : TabB base mg T.c_greatest_top T.P_greatest_top) : FnOk P w K mg base CX0 8 T.f_certificate_for T.d_certificate_for ["ask", "rows"] (sp_cf (tabs T)) := by
  have F_judge_counts := ok_judge_counts (P := P) (w := w) (base := base) T TB
  have F_judge_sound_counts : FnOk P w K mg base CX0 1 T.f_judge_sound_counts T.d_judge_sound_counts ["counts"] _ := FnOk.never
  have F_judge_sphere : FnOk P w K mg base CX0 1 T.f_judge_sphere T.d_judge_sphere ["counts"] _ := FnOk.never
  have F_judge_colours : FnOk P w K mg base CX0 1 T.f_judge_colours T.d_judge_colours ["counts", "r"] _ := FnOk.never
  have F_judge_rows : FnOk P w K mg base CX0 1 T.f_judge_rows T.d_judge_rows ["counts", "holes"] _ := FnOk.never
  refine T.U_certificate_for.ok sc_certificate_for (fun vs H Q E h => ?_) (fun cdv A outer s H vs Q E hr h => ?_)
  · obtain ⟨_, _, _, _, _, rfl, _⟩ := h
    rfl
  · obtain ⟨k, L, c, ys, xs, rfl, hk, hL, hc, R, hp, hT, q⟩ := h
    refine ⟨_, (pss_cons (ps_set (i := 2) sc_certificate_for.nd rfl (.inl rfl) (pe_ix ix_tup (pv 0) pe_int (fun _ _ => rfl)))
  (pss_cons (ps_if (pt_cmpR op_eq (pv 2) pe_str (nomark _)) (pss_one (ps_ret (pe_call F_judge_counts (hr.mono (by decide)) (by rfl) T.g_judge_counts T.k_judge_counts T.b_judge_counts .nil pass0 (pa_cons (pe_ix ix_list (pv 1) pe_int (fun _ _ => rfl)) pa_nil)))) pss_nil)
  (pss_cons (ps_if (pt_cmpR op_eq (pv 2) pe_str (nomark _)) (pss_one (ps_ret (pe_call F_judge_sound_counts (hr.mono (by decide)) (by rfl) T.g_judge_sound_counts T.k_judge_sound_counts T.b_judge_sound_counts .nil pass0 (pa_cons (pe_ix ix_list (pv 1) pe_int (fun _ _ => rfl)) pa_nil)))) pss_nil)
  (pss_cons (ps_if (pt_cmpR op_eq (pv 2) pe_str (nomark _)) (pss_one (ps_ret (pe_call F_judge_sphere (hr.mono (by decide)) (by rfl) T.g_judge_sphere T.k_judge_sphere T.b_judge_sphere .nil pass0 (pa_cons (pe_ix ix_list (pv 1) pe_int (fun _ _ => rfl)) pa_nil)))) pss_nil)
  (pss_cons (ps_if (pt_cmpR op_eq (pv 2) pe_str (nomark _)) (pss_one (ps_ret (pe_call F_judge_colours (hr.mono (by decide)) (by rfl) T.g_judge_colours T.k_judge_colours T.b_judge_colours .nil pass0 (pa_cons (pe_ix ix_list (pv 1) pe_int (fun _ _ => rfl)) (pa_cons (pe_ix ix_tup (pv 0) pe_int (fun _ _ => rfl)) pa_nil))))) pss_nil)
  (pss_one (ps_ret (pe_call F_judge_rows (hr.mono (by decide)) (by rfl) T.g_judge_rows T.k_judge_rows T.b_judge_rows .nil pass0 (pa_cons (pe_ix ix_list (pv 1) pe_int (fun _ _ => rfl)) (pa_cons (pe_ix ix_list (pv 1) pe_int (fun _ _ => rfl)) pa_nil)))))))))), ?_⟩
    refine ⟨_, rfl, k, _, ((0 : Nat) : Int), _, rfl, rfl, SqT.of hk, atI_nat rfl, ?_⟩
    refine ⟨_, rfl, rfl, _, rfl, ite_yes (decide_eq_true rfl) ?_⟩
    exact ⟨_, rfl, L, _, ((0 : Nat) : Int), _, rfl, rfl, SqL.of hL, atI_nat rfl, c, xs, rfl, hc, R, hp, hT, q⟩
def sp_fit (TL : List (Addr × Str)) : Sp := fun vs H Q _ => ∃ (k n : Addr) (wd : Wd) (a : Addr) (xs : List (Option Nat)) (x : Nat), vs = [.ref k, .ref n] ∧ AskAt H k wd [(a, xs)] ∧ Good wd [(a, xs)] ∧ H n = some (.tup [.int (x : Int)]) ∧ Row (fill xs x) ∧ Tabs TL H ∧ RetVk TL (.bl (fitB wd (fill xs x))) H Q
theorem gaps_one {wd : Wd} {a : Addr} {xs : List (Option Nat)} (g : Good wd [(a, xs)]) : gaps xs = 1 := by
  have := g.2
  unfold gapsN at this
  simpa using this
theorem ok_is_fit (T : Txt K mg) (TB : TabB base mg T.c_greatest_top T.P_greatest_top) : FnOk P w K mg base CX0 9 T.f_is_fit T.d_is_fit ["ask", "numbers"] (sp_fit (tabs T)) := by
  have F_filled := ok_filled (P := P) (w := w) (base := base) T
  have F_judge_row := ok_judge_row (P := P) (w := w) (base := base) T TB
  have F_is_counts := ok_is_counts (P := P) (w := w) (base := base) T
  have F_certificate_for := ok_certificate_for (P := P) (w := w) (base := base) T TB
  refine T.U_is_fit.ok sc_is_fit (fun vs H Q E h => ?_) (fun cdv A outer s H vs Q E hr h => ?_)
  · obtain ⟨_, _, _, _, _, _, rfl, _⟩ := h
    rfl
  · obtain ⟨k, n, wd, a, xs, x, rfl, A, g, hn, R, hT, q⟩ := h
    refine ⟨_, (pss_cons (ps_set (i := 2) sc_is_fit.nd rfl (.inl rfl) (pe_call F_filled (hr.mono (by decide)) (by rfl) T.g_filled T.k_filled T.b_filled .nil pass0 (pa_cons (pv 0) (pa_cons (pv 1) pa_nil))))
  (pss_cons (ps_if (pt_cmpR op_eq (pe_ix ix_tup (pv 0) pe_int (fun _ _ => rfl)) pe_str (nomark _)) (pss_one (ps_ret (pe_cmpR op_eq (pe_ix ix_tup (pe_call F_judge_row (hr.mono (by decide)) (by rfl) T.g_judge_row T.k_judge_row T.b_judge_row .nil pass0 (pa_cons (pe_ix ix_list (pv 2) pe_int (fun _ _ => rfl)) pa_nil)) pe_int (fun _ _ => rfl)) pe_str (nomark _)))) pss_nil)
  (pss_one (ps_ret (pe_and (pe_call F_is_counts (hr.mono (by decide)) (by rfl) T.g_is_counts T.k_is_counts T.b_is_counts .nil pass0 (pa_cons (pe_ix ix_list (pv 2) pe_int (fun _ _ => rfl)) pa_nil)) (pe_one (pe_cmpR op_eq (pe_ix ix_tup (pe_call F_certificate_for (hr.mono (by decide)) (by rfl) T.g_certificate_for T.k_certificate_for T.b_certificate_for .nil pass0 (pa_cons (pv 0) (pa_cons (pv 2) pa_nil))) pe_int (fun _ _ => rfl)) pe_str (nomark _)))))))), ?_⟩
    refine ⟨_, rfl, _, rfl, k, n, wd, a, xs, x, rfl, A, gaps_one g, hn, fun L c H1 e1 hL hc => ?_⟩
    have A1 := A.more e1
    obtain ⟨ys, hk, _⟩ := A1.tup
    have hT1 := hT.ext e1
    rcases g.1 with rfl | rfl
    · refine ⟨_, rfl, k, _, ((0 : Nat) : Int), _, rfl, rfl, SqT.of hk, atI_nat rfl, rfl, _, rfl, ite_no (by decide +kernel) ?_⟩
      dsimp only [tNext]
      refine ⟨_, rfl, L, _, ((0 : Nat) : Int), _, rfl, rfl, SqL.of hL, atI_nat rfl, .ref c, nD (fill xs x), rfl, nD_dx hc, by rw [nD_items]; have := R.l16; omega, fun H2 e2 => ⟨_, rfl, ?_⟩⟩
      rw [countsB_nat R.l16]
      have e12 := e1.trans e2
      cases hp : (fill xs x).all fun x => decide (1 ≤ x) with
      | false =>
        refine iteF ?_
        have ef : fitB .sets (fill xs x) = false := by
          show (((fill xs x).all fun x => decide (1 ≤ x)) && ftS (fill xs x)) = false
          rw [hp]
          rfl
        rw [ef] at q
        exact q H2 (.of e12)
      | true =>
        refine iteT ?_
        have ef : fitB .sets (fill xs x) = ftS (fill xs x) := by
          show (((fill xs x).all fun x => decide (1 ≤ x)) && ftS (fill xs x)) = _
          rw [hp]
          rfl
        rw [ef] at q
        refine ⟨_, rfl, _, rfl, k, L, c, ys, fill xs x, rfl, e2 _ _ hk, e2 _ _ hL, e2 _ _ hc, R, hp, hT1.ext e2, fun t y H3 e3 ht => ?_⟩
        refine ⟨t, _, ((0 : Nat) : Int), _, rfl, rfl, SqT.of ht, atI_nat rfl, rfl, ?_⟩
        exact q_bl (Q := Q) (wd_eq size_ne) (q H3 ((Ek.of e12).trans e3))
    · refine ⟨_, rfl, k, _, ((0 : Nat) : Int), _, rfl, rfl, SqT.of hk, atI_nat rfl, rfl, _, rfl, ite_yes (by decide +kernel) ?_⟩
      have h0 : (fill xs x).getD 0 0 = 1 := by
        have := A.prod rfl _ (.head _)
        have e : xs[0]? = some (some 1) := this
        unfold fill
        rw [List.getD_eq_getElem?_getD, List.getElem?_map, e]
        rfl
      refine ⟨_, rfl, L, _, ((0 : Nat) : Int), _, rfl, rfl, SqL.of hL, atI_nat rfl, c, fill xs x, rfl, hc, R, h0, hT1, fun t y H3 e3 ht => ?_⟩
      refine ⟨t, _, ((0 : Nat) : Int), _, rfl, rfl, SqT.of ht, atI_nat rfl, rfl, ?_⟩
      exact q_bl (Q := Q) (wd_eq degree_ne) (q H3 ((Ek.of e1).trans e3))
theorem ok_is_answer (T : Txt K mg) (TB : TabB base mg T.c_greatest_top T.P_greatest_top) {es : Array DictEntry} {n : Nat} (DA : KDict K w T.A_ASKS es n) : FnOk P w K mg base CX0 10 T.f_is_answer T.d_is_answer ["ask", "thing"] (sp_fit (tabs T)) := by
  have F_check_ask := ok_check_ask (P := P) (w := w) (base := base) T DA
  have F_are_integers_from := ok_are_integers_from (P := P) (w := w) (base := base) T
  have F_many_gaps := ok_many_gaps (P := P) (w := w) (base := base) T
  have F_is_fit := ok_is_fit (P := P) (w := w) (base := base) T TB
  refine T.U_is_answer.ok sc_is_answer (fun vs H Q E h => ?_) (fun cdv A outer s H vs Q E hr h => ?_)
  · obtain ⟨_, _, _, _, _, _, rfl, _⟩ := h
    rfl
  · obtain ⟨k, n, wd, a, xs, x, rfl, A, g, hn, R, hT, q⟩ := h
    refine ⟨_, (pss_cons (ps_expr (pe_call F_check_ask (hr.mono (by decide)) (by rfl) T.g_check_ask T.k_check_ask T.b_check_ask .nil pass0 (pa_cons (pv 0) pa_nil)))
  (pss_one (ps_ret (pe_and (pe_call F_are_integers_from (hr.mono (by decide)) (by rfl) T.g_are_integers_from T.k_are_integers_from T.b_are_integers_from .nil pass0 (pa_cons (pv 1) (pa_cons pe_int pa_nil))) (pe_and (pe_cmpR op_eq (pe_callB call_len_seq (by rfl) T.n_len PySem.boot_len (pa_cons (pv 1) pa_nil)) (pe_call F_many_gaps (hr.mono (by decide)) (by rfl) T.g_many_gaps T.k_many_gaps T.b_many_gaps .nil pass0 (pa_cons (pv 0) pa_nil)) (nomark _)) (pe_one (pe_call F_is_fit (hr.mono (by decide)) (by rfl) T.g_is_fit T.k_is_fit T.b_is_fit .nil pass0 (pa_cons (pv 0) (pa_cons (pv 1) pa_nil))))))))), ?_⟩
    refine ⟨_, rfl, k, wd, _, rfl, A, g, fun H1 e1 => ?_⟩
    have hn1 : H1 n = some (.tup (tz [x])) := e1 _ _ hn
    refine ⟨_, rfl, .ref n, nD [x], 0, rfl, nD_dx hn1, by rw [nD_items]; show 1 ≤ 1000; decide, fun H2 e2 => ⟨_, rfl, ?_⟩⟩
    rw [froms_nat0]
    have hn2 := e2 _ _ hn1
    have e12 := e1.trans e2
    refine iteT ⟨_, rfl, n, _, rfl, .inr (SqT.of hn2), ?_⟩
    refine ⟨_, rfl, k, wd, _, rfl, A.more e12, fun H3 e3 => ⟨rfl, _, rfl, ite_yes ?_ ?_⟩⟩
    · rw [g.2]
      exact decide_eq_true rfl
    have e13 := e12.trans e3
    exact ⟨_, rfl, _, rfl, k, n, wd, a, xs, x, rfl, A.more e13, g, e3 _ _ hn2, R, hT.ext e13, fun H4 e4 => q H4 ((Ek.of e13).trans e4)⟩
end
end K88

set_option exponentiation.threshold 3000
namespace K88
open PySem PySem.Spec PyProof.Rows L2 Hr HrM Evl HrE_thing LamX RZ
/-- the row ns with a gap at i -/
def gp (ns : List Nat) (i : Nat) : List (Option Nat) := (ns.map some).set i none
theorem gp_len (ns : List Nat) (i : Nat) : (gp ns i).length = ns.length := by
  unfold gp
  rw [List.length_set, List.length_map]
theorem gp_ne {ns : List Nat} {i j : Nat} (h : j ≠ i) (hj : j < ns.length) : (gp ns i)[j]? = some (some (ns.getD j 0)) := by
  unfold gp
  rw [List.getElem?_set_ne (Ne.symm h), List.getElem?_map, List.getD_eq_getElem?_getD, List.getElem?_eq_getElem hj]
  rfl
theorem gp_eq {ns : List Nat} {i : Nat} (hi : i < ns.length) : (gp ns i)[i]? = some none := by
  unfold gp
  rw [List.getElem?_set_self (by rw [List.length_map]; exact hi)]
theorem ogp_ne {ns : List Nat} {i j : Nat} (h : j ≠ i) (hj : j < ns.length) : (oVs (gp ns i))[j]? = some (.int ((ns.getD j 0 : Nat) : Int)) := by
  unfold oVs
  rw [List.getElem?_map, gp_ne h hj]
  rfl
theorem ogp_eq {ns : List Nat} {i : Nat} (hi : i < ns.length) : (oVs (gp ns i))[i]? = some .non := by
  unfold oVs
  rw [List.getElem?_map, gp_eq hi]
  rfl
theorem fill_gp {ns : List Nat} {i x : Nat} : fill (gp ns i) x = ns.set i x := by
  unfold fill gp
  rw [List.map_set, List.map_map]
  congr 1
  exact List.map_id _
theorem gaps_gp {ns : List Nat} {i : Nat} (hi : i < ns.length) : gaps (gp ns i) = 1 := by
  have e0 : ∀ l : List Nat, (l.map some).filter (·.isNone) = ([] : List (Option Nat)) := fun l => by
    rw [List.filter_eq_nil_iff]
    intro o ho
    obtain ⟨x, _, rfl⟩ := List.mem_map.mp ho
    exact Bool.false_ne_true
  unfold gaps gp
  rw [List.set_eq_take_append_cons_drop, if_pos (by rw [List.length_map]; exact hi), List.filter_append, List.filter_cons, ← List.map_take, ← List.map_drop, e0, e0]
  rfl
theorem good_gp {wd : Wd} {a : Addr} {ns : List Nat} {i : Nat} (hw : wd = .sets ∨ wd = .products) (hi : i < ns.length) : Good wd [(a, gp ns i)] := ⟨hw, by
  unfold gapsN
  have := gaps_gp hi
  simpa using this⟩
noncomputable def loS (ns : List Nat) (i : Nat) : Nat := if i + 1 < ns.length then Lf 0 (i + 2) (ns.getD (i + 1) 0) else 1
noncomputable def hiS (ns : List Nat) (i : Nat) : Option Nat := if 0 < i then some (Uf 0 i (ns.getD (i - 1) 0)) else none
noncomputable def loP (ns : List Nat) (i : Nat) : Nat := if i + 1 < ns.length then Lf 1 (i + 1) (ns.getD (i + 1) 0) else 0
noncomputable def hiP (ns : List Nat) (i : Nat) : Option Nat := if 1 < i then some (Uf 1 (i - 1) (ns.getD (i - 1) 0)) else none
/-- a gapped row of small numbers -/
structure Gp (ns : List Nat) (i : Nat) : Prop where
  i_lt : i < ns.length
  l16 : ns.length ≤ 16
  small : ∀ j, ns.getD j 0 < 2 ^ 100
theorem rd_ek {T : List (Addr × Str)} {H H' : Hp} {a : Addr} {xs : List V} (h : Rd H a (.tup xs)) (e : Ek T H H') : Rd H' a (.tup xs) := h.elim (fun h => .inl (e.get h)) fun ⟨o, h⟩ => .inr ⟨o, e.get h⟩
theorem p100 {n : Nat} (h : n < 2 ^ 100) : n < 2 ^ 1900 := Nat.lt_trans h (Nat.pow_lt_pow_right (by decide) (by decide))
section
variable {P : Program} {w : World} {K : PySem.W.Frag} {mg : Str → Option Value} {base : Heap}
def sp_eo (TL : List (Addr × Str)) (lo : List Nat → Nat → Nat) (hi : List Nat → Nat → Option Nat) : Sp := fun vs H Q _ => ∃ (a : Addr) (ns : List Nat) (i : Nat), vs = [.ref a, .int i] ∧ Rd H a (.tup (oVs (gp ns i))) ∧ Gp ns i ∧ Tabs TL H ∧
  ∀ t H', Ek TL H H' → H' t = some (.tup [.int ((lo ns i : Nat) : Int), oV (hi ns i)]) → Q (.ref t) H'
theorem ok_ends_of_sets (T : Txt K mg) (TB : TabB base mg T.c_greatest_top T.P_greatest_top) : FnOk P w K mg base CX0 6 T.f_ends_of_sets T.d_ends_of_sets ["row", "place"] (sp_eo (tabs T) loS hiS) := by
  have F_lower_sets := (ok_lower_sets (P := P) (w := w) (base := base) T TB).imp (numOf numLS)
  have F_upper_sets := (ok_upper_sets (P := P) (w := w) (base := base) T TB).imp (numOf numUS)
  refine T.U_ends_of_sets.ok sc_ends_of_sets (fun vs H Q E h => ?_) (fun cdv A outer s H vs Q E hr h => ?_)
  · obtain ⟨_, _, _, rfl, _⟩ := h
    rfl
  · obtain ⟨a, ns, i, rfl, ha, G, hT, q⟩ := h
    refine ⟨_, (pss_cons (ps_set (i := 2) sc_ends_of_sets.nd rfl (.inl rfl) pe_int)
  (pss_cons (ps_set (i := 3) sc_ends_of_sets.nd rfl (.inl rfl) pe_non)
  (pss_cut (ps_if (pt_cmpR op_lt (pe_op op_add (pv 1) pe_int) (pe_callB call_len_seq (by rfl) T.n_len PySem.boot_len (pa_cons (pv 0) pa_nil)) (nomark _)) (pss_one (ps_set (i := 2) sc_ends_of_sets.nd rfl (.inl rfl) (pe_call F_lower_sets (hr.mono (by decide)) (by rfl) T.g_lower_sets T.k_lower_sets T.b_lower_sets .nil pass0 (pa_cons (pe_ix ix_tup (pv 0) (pe_op op_add (pv 1) pe_int) (fun _ _ => rfl)) (pa_cons (pe_op op_add (pv 1) pe_int) pa_nil))))) pss_nil)
  (pss_cut (ps_if (pt_cmpR op_gt (pv 1) pe_int (nomark _)) (pss_one (ps_set (i := 3) sc_ends_of_sets.nd rfl (.inl rfl) (pe_call F_upper_sets (hr.mono (by decide)) (by rfl) T.g_upper_sets T.k_upper_sets T.b_upper_sets .nil pass0 (pa_cons (pe_ix ix_tup (pv 0) (pe_op op_sub (pv 1) pe_int) (fun _ _ => rfl)) (pa_cons (pv 1) pa_nil))))) pss_nil)
  (pss_one (ps_ret (pe_tup (pa_cons (pv 2) (pa_cons (pv 3) pa_nil))))))))), ?_⟩
    have hi := G.i_lt
    have h16 := G.l16
    have hol : (oVs (gp ns i)).length = ns.length := by rw [oVs_len, gp_len]
    refine ⟨fun σ' H' => σ' = [some (.ref a), some (.int i), some (.int ((loS ns i : Nat) : Int)), some .non] ∧ Ek (tabs T) H H', ?_, ?_⟩
    · refine ⟨_, rfl, _, _, rfl, rfl, _, rfl, a, _, rfl, .inr (.inl ha), _, _, rfl, rfl, _, rfl, ite2 (fun e => ?_) (fun e => ?_)⟩
      · have hlt : i + 1 < ns.length := by have := of_decide_eq_true e; rw [hol] at this; omega
        refine ⟨_, rfl, _, rfl, _, _, rfl, rfl, a, _, _, _, rfl, rfl, .inl ha, atI_is (n := i + 1) (by omega) (ogp_ne (by omega) hlt), _, rfl, _, _, rfl, rfl, _, _, ns.getD (i + 1) 0, i + 2, rfl, rfl, by omega, p100 (G.small _), by omega, by omega, hT, fun H1 e1 => ⟨?_, e1⟩⟩
        have : loS ns i = Lf 0 (i + 2) (ns.getD (i + 1) 0) := if_pos hlt
        rw [this]
        rfl
      · have hlt : ¬ i + 1 < ns.length := fun z => e (decide_eq_true (by rw [hol]; omega))
        have : loS ns i = 1 := if_neg hlt
        rw [this]
        exact ⟨rfl, Ek.refl _⟩
    rintro σ' H1 ⟨rfl, e1⟩
    refine ⟨fun σ' H' => σ' = [some (.ref a), some (.int i), some (.int ((loS ns i : Nat) : Int)), some (oV (hiS ns i))] ∧ Ek (tabs T) H H', ?_, ?_⟩
    · refine ⟨_, rfl, _, _, rfl, rfl, _, rfl, ite2 (fun e => ?_) (fun e => ?_)⟩
      · have hlt : 0 < i := by have := of_decide_eq_true e; omega
        refine ⟨_, rfl, _, rfl, _, _, rfl, rfl, a, _, _, _, rfl, rfl, .inl (rd_ek ha e1), atI_is (n := i - 1) (by omega) (ogp_ne (by omega) (by omega)), _, rfl, _, _, ns.getD (i - 1) 0, i, rfl, rfl, rfl, p100 (G.small _), by omega, by omega, e1.t hT, fun H2 e2 => ⟨?_, e1.trans e2⟩⟩
        have : hiS ns i = some (Uf 0 i (ns.getD (i - 1) 0)) := if_pos hlt
        rw [this]
        rfl
      · have hlt : ¬ 0 < i := fun z => e (decide_eq_true (by omega))
        have : hiS ns i = none := if_neg hlt
        rw [this]
        exact ⟨rfl, e1⟩
    rintro σ' H2 ⟨rfl, e2⟩
    exact ⟨_, rfl, _, rfl, small2, fun t nt => q t _ (e2.ex (Ex.new nt)) upd_same⟩
theorem ok_ends_of_products (T : Txt K mg) (TB : TabB base mg T.c_greatest_top T.P_greatest_top) : FnOk P w K mg base CX0 6 T.f_ends_of_products T.d_ends_of_products ["row", "place"] (sp_eo (tabs T) loP hiP) := by
  have F_lower_products := (ok_lower_products (P := P) (w := w) (base := base) T TB).imp (numOf numLP)
  have F_upper_products := (ok_upper_products (P := P) (w := w) (base := base) T TB).imp (numOf numUP)
  refine T.U_ends_of_products.ok sc_ends_of_products (fun vs H Q E h => ?_) (fun cdv A outer s H vs Q E hr h => ?_)
  · obtain ⟨_, _, _, rfl, _⟩ := h
    rfl
  · obtain ⟨a, ns, i, rfl, ha, G, hT, q⟩ := h
    refine ⟨_, (pss_cons (ps_set (i := 2) sc_ends_of_products.nd rfl (.inl rfl) pe_int)
  (pss_cons (ps_set (i := 3) sc_ends_of_products.nd rfl (.inl rfl) pe_non)
  (pss_cut (ps_if (pt_cmpR op_lt (pe_op op_add (pv 1) pe_int) (pe_callB call_len_seq (by rfl) T.n_len PySem.boot_len (pa_cons (pv 0) pa_nil)) (nomark _)) (pss_one (ps_set (i := 2) sc_ends_of_products.nd rfl (.inl rfl) (pe_call F_lower_products (hr.mono (by decide)) (by rfl) T.g_lower_products T.k_lower_products T.b_lower_products .nil pass0 (pa_cons (pe_ix ix_tup (pv 0) (pe_op op_add (pv 1) pe_int) (fun _ _ => rfl)) (pa_cons (pe_op op_add (pv 1) pe_int) pa_nil))))) pss_nil)
  (pss_cut (ps_if (pt_cmpR op_gt (pv 1) pe_int (nomark _)) (pss_one (ps_set (i := 3) sc_ends_of_products.nd rfl (.inl rfl) (pe_call F_upper_products (hr.mono (by decide)) (by rfl) T.g_upper_products T.k_upper_products T.b_upper_products .nil pass0 (pa_cons (pe_ix ix_tup (pv 0) (pe_op op_sub (pv 1) pe_int) (fun _ _ => rfl)) (pa_cons (pe_op op_sub (pv 1) pe_int) pa_nil))))) pss_nil)
  (pss_one (ps_ret (pe_tup (pa_cons (pv 2) (pa_cons (pv 3) pa_nil))))))))), ?_⟩
    have hi := G.i_lt
    have h16 := G.l16
    have hol : (oVs (gp ns i)).length = ns.length := by rw [oVs_len, gp_len]
    refine ⟨fun σ' H' => σ' = [some (.ref a), some (.int i), some (.int ((loP ns i : Nat) : Int)), some .non] ∧ Ek (tabs T) H H', ?_, ?_⟩
    · refine ⟨_, rfl, _, _, rfl, rfl, _, rfl, a, _, rfl, .inr (.inl ha), _, _, rfl, rfl, _, rfl, ite2 (fun e => ?_) (fun e => ?_)⟩
      · have hlt : i + 1 < ns.length := by have := of_decide_eq_true e; rw [hol] at this; omega
        refine ⟨_, rfl, _, rfl, _, _, rfl, rfl, a, _, _, _, rfl, rfl, .inl ha, atI_is (n := i + 1) (by omega) (ogp_ne (by omega) hlt), _, rfl, _, _, rfl, rfl, _, _, ns.getD (i + 1) 0, i + 1, rfl, rfl, by omega, p100 (G.small _), by omega, by omega, hT, fun H1 e1 => ⟨?_, e1⟩⟩
        have : loP ns i = Lf 1 (i + 1) (ns.getD (i + 1) 0) := if_pos hlt
        rw [this]
        rfl
      · have hlt : ¬ i + 1 < ns.length := fun z => e (decide_eq_true (by rw [hol]; omega))
        have : loP ns i = 0 := if_neg hlt
        rw [this]
        exact ⟨rfl, Ek.refl _⟩
    rintro σ' H1 ⟨rfl, e1⟩
    refine ⟨fun σ' H' => σ' = [some (.ref a), some (.int i), some (.int ((loP ns i : Nat) : Int)), some (oV (hiP ns i))] ∧ Ek (tabs T) H H', ?_, ?_⟩
    · refine ⟨_, rfl, _, _, rfl, rfl, _, rfl, ite2 (fun e => ?_) (fun e => ?_)⟩
      · have hlt : 1 < i := by have := of_decide_eq_true e; omega
        refine ⟨_, rfl, _, rfl, _, _, rfl, rfl, a, _, _, _, rfl, rfl, .inl (rd_ek ha e1), atI_is (n := i - 1) (by omega) (ogp_ne (by omega) (by omega)), _, rfl, _, _, rfl, rfl, _, _, ns.getD (i - 1) 0, i - 1, rfl, rfl, by omega, p100 (G.small _), by omega, by omega, e1.t hT, fun H2 e2 => ⟨?_, e1.trans e2⟩⟩
        have : hiP ns i = some (Uf 1 (i - 1) (ns.getD (i - 1) 0)) := if_pos hlt
        rw [this]
        rfl
      · have hlt : ¬ 1 < i := fun z => e (decide_eq_true (by omega))
        have : hiP ns i = none := if_neg hlt
        rw [this]
        exact ⟨rfl, e1⟩
    rintro σ' H2 ⟨rfl, e2⟩
    exact ⟨_, rfl, _, rfl, small2, fun t nt => q t _ (e2.ex (Ex.new nt)) upd_same⟩
end
end K88

set_option exponentiation.threshold 3000
namespace K88
open PySem PySem.Spec PyProof.Rows L2 Hr HrM Evl HrE_thing LamX RZ
def isSP (wd : Wd) : Prop := wd = .sets ∨ wd = .products
noncomputable def loW : Wd → List Nat → Nat → Nat
  | .sets => loS | _ => loP
noncomputable def hiW : Wd → List Nat → Nat → Option Nat
  | .sets => hiS | _ => hiP
theorem row_set {ns : List Nat} {i x : Nat} (G : Gp ns i) (hx : x < 2 ^ 1900) : Row (fill (gp ns i) x) := by
  have h1 := G.i_lt
  have h2 := G.l16
  refine ⟨by rw [fill_len, gp_len]; omega, by rw [fill_len, gp_len]; omega, fun k => ?_⟩
  rw [fill_gp, List.getD_eq_getElem?_getD]
  by_cases e : k = i
  · subst e
    rw [List.getElem?_set_self h1]
    exact hx
  · rw [List.getElem?_set_ne (Ne.symm e), ← List.getD_eq_getElem?_getD]
    exact p100 (G.small k)
theorem loW_lt {wd : Wd} {ns : List Nat} {i : Nat} (hw : isSP wd) (G : Gp ns i) : loW wd ns i < 2 ^ 1850 := by
  have h1 := G.i_lt
  have h2 := G.l16
  have hp : 1 < 2 ^ 1850 := Nat.lt_of_lt_of_le (by decide : 1 < 2 ^ 1) (Nat.pow_le_pow_right (by decide) (by decide))
  rcases hw with rfl | rfl
  · show loS ns i < _
    unfold loS
    split
    · exact Lf_lt (by decide) (G.small _) (by omega) (by omega)
    · exact hp
  · show loP ns i < _
    unfold loP
    split
    · exact Lf_lt (by decide) (G.small _) (by omega) (by omega)
    · omega
/-- what ends_of tells -/
def RetE (TL : List (Addr × Str)) (wd : Wd) (ns : List Nat) (i : Nat) (H : Hp) (Q : VK) : Prop :=
  if fitB wd (ns.set i (loW wd ns i)) = true then ∀ t H', Ek TL H H' → H' t = some (.tup [.int ((loW wd ns i : Nat) : Int), oV (hiW wd ns i)]) → Q (.ref t) H' else ∀ H', Ek TL H H' → Q .non H'
def Out (C : Addr) (v : V) (H : Hp) (E : XK) : Prop := ∀ dd H2, H dd = none → Ex H H2 → H2 dd = some (.xd [("thing", v)]) → E (.ref C) (some dd) H2
/-- a right ask -/
structure Rt (H : Hp) (k : Addr) (wd : Wd) (a : Addr) (ns : List Nat) (i : Nat) : Prop where
  ask : AskAt H k wd [(a, gp ns i)]
  sp : isSP wd
  fz : ∃ o, H a = some (.frz o (.tup (oVs (gp ns i)))) ∧ o.dict = none
  gp : Gp ns i
theorem Rt.more {H H' : Hp} {k : Addr} {wd : Wd} {a : Addr} {ns : List Nat} {i : Nat} (r : Rt H k wd a ns i) (e : Ex H H') : Rt H' k wd a ns i :=
  ⟨r.ask.more e, r.sp, let ⟨o, h, d⟩ := r.fz; ⟨o, e _ _ h, d⟩, r.gp⟩
theorem GapAt.moreK {T : List (Addr × Str)} {H H' : Hp} {a : Addr} {xs : List (Option Nat)} (h : GapAt H a xs) (e : Ek T H H') : GapAt H' a xs := ⟨rd_ek h.rd e, h.l1, h.l16⟩
theorem AskAt.moreK {T : List (Addr × Str)} {H H' : Hp} {k : Addr} {w : Wd} {rs : List (Addr × List (Option Nat))} (h : AskAt H k w rs) (e : Ek T H H') : AskAt H' k w rs :=
  ⟨h.at_.elim (fun ⟨a, b⟩ => .inl ⟨a, e.get b⟩) fun ⟨a, r, b⟩ => .inr ⟨a, r, e.get b⟩, fun p hp => (h.rows p hp).moreK e, h.one, h.two, h.prod⟩
theorem Rt.moreK {T : List (Addr × Str)} {H H' : Hp} {k : Addr} {wd : Wd} {a : Addr} {ns : List Nat} {i : Nat} (r : Rt H k wd a ns i) (e : Ek T H H') : Rt H' k wd a ns i :=
  ⟨r.ask.moreK e, r.sp, let ⟨o, h, d⟩ := r.fz; ⟨o, e.get h, d⟩, r.gp⟩
theorem sp_in {wd : Wd} : inV (V.str wd.s) [V.str "sets", V.str "products"] = true ↔ isSP wd := by
  unfold isSP
  cases wd with
  | sets => exact ⟨fun _ => .inl rfl, fun _ => by decide +kernel⟩
  | products => exact ⟨fun _ => .inr rfl, fun _ => by decide +kernel⟩
  | _ => exact ⟨fun h => absurd h (by decide +kernel), fun h => by rcases h with z | z <;> cases z⟩
section
variable {P : Program} {w : World} {K : PySem.W.Frag} {mg : Str → Option Value} {base : Heap}
def sp_ends_of (TL : List (Addr × Str)) (C : Addr) : Sp := fun vs H Q E => ∃ (k : Addr) (wd : Wd), vs = [.ref k] ∧ Tabs TL H ∧
  ((∃ a ns i, Rt H k wd a ns i ∧ RetE TL wd ns i H Q) ∨ ∃ rs, AskAt H k wd rs ∧ (isSP wd → 1 < gapsN rs) ∧ Out C (.ref k) H E)
theorem ok_ends_of (T : Txt K mg) (TB : TabB base mg T.c_greatest_top T.P_greatest_top) {es : Array DictEntry} {n : Nat} (DA : KDict K w T.A_ASKS es n) : FnOk P w K mg base (L2.CX P w) 10 T.f_ends_of T.d_ends_of ["ask"] (sp_ends_of (tabs T) T.C_BadAsk) := by
  have F_is_ask := ok_is_ask (P := P) (w := w) (base := base) T DA
  have F_many_gaps := ok_many_gaps (P := P) (w := w) (base := base) T
  have F_ends_of_sets := ok_ends_of_sets (P := P) (w := w) (base := base) T TB
  have F_ends_of_products := ok_ends_of_products (P := P) (w := w) (base := base) T TB
  have F_is_fit := ok_is_fit (P := P) (w := w) (base := base) T TB
  have x_BadAsk := T.x_BadAsk
  refine T.U_ends_of.okX sc_ends_of (fun vs H Q E h => ?_) (fun cdv A outer s H vs Q E hr h => ?_)
  · obtain ⟨_, _, rfl, _⟩ := h
    rfl
  · obtain ⟨k, wd, rfl, hT, h⟩ := h
    refine ⟨_, (pss_cons (ps_if (PW.pt (pw_or (pt_not (pt_val (pe_call F_is_ask (hr.mono (by decide)) (by rfl) T.g_is_ask T.k_is_ask T.b_is_ask .nil pass0 (pa_cons (pv 0) pa_nil)))) (pw_or (pt_cmpR op_notIn_seq (pe_ix ix_tup (pv 0) pe_int (fun _ _ => rfl)) (pe_tup (pa_cons pe_str (pa_cons pe_str pa_nil))) (by rfl)) (pw_or1 (pt_cmpR op_gt (pe_call F_many_gaps (hr.mono (by decide)) (by rfl) T.g_many_gaps T.k_many_gaps T.b_many_gaps .nil pass0 (pa_cons (pv 0) pa_nil)) pe_int (nomark _)))))) (pss_one (ps_raiseEx rfl x_BadAsk hr (takes_of rfl rfl rfl rfl) (pa_cons (pv 0) pa_nil))) pss_nil)
  (pss_cons (ps_set (i := 1) sc_ends_of.nd rfl (.inl rfl) (pe_ix ix_tup (pv 0) pe_int (fun _ _ => rfl)))
  (pss_cons (ps_set (i := 2) sc_ends_of.nd rfl (.inl rfl) (pe_bmF PySem.F.slot_tuple_index PySem.F.type_tuple_index mt_tupIdxV (pv 1) (pa_cons pe_non pa_nil)))
  (pss_cut (ps_if (pt_cmpR op_eq (pe_ix ix_tup (pv 0) pe_int (fun _ _ => rfl)) pe_str (nomark _)) (pss_one (ps_asg (pe_call F_ends_of_sets (hr.mono (by decide)) (by rfl) T.g_ends_of_sets T.k_ends_of_sets T.b_ends_of_sets .nil pass0 (pa_cons (pv 1) (pa_cons (pv 2) pa_nil))) (pg_tup (by rfl) (pgs_cons (pg_name (i := 3) sc_ends_of.nd rfl (.inl rfl)) (pgs_cons (pg_name (i := 4) sc_ends_of.nd rfl (.inl rfl)) pgs_nil))))) (pss_one (ps_asg (pe_call F_ends_of_products (hr.mono (by decide)) (by rfl) T.g_ends_of_products T.k_ends_of_products T.b_ends_of_products .nil pass0 (pa_cons (pv 1) (pa_cons (pv 2) pa_nil))) (pg_tup (by rfl) (pgs_cons (pg_name (i := 3) sc_ends_of.nd rfl (.inl rfl)) (pgs_cons (pg_name (i := 4) sc_ends_of.nd rfl (.inl rfl)) pgs_nil))))))
  (pss_cons (ps_if (pt_not (pt_val (pe_call F_is_fit (hr.mono (by decide)) (by rfl) T.g_is_fit T.k_is_fit T.b_is_fit .nil pass0 (pa_cons (pv 0) (pa_cons (pe_tup (pa_cons (pv 3) pa_nil)) pa_nil))))) (pss_one (ps_ret pe_non)) pss_nil)
  (pss_one (ps_ret (pe_tup (pa_cons (pv 3) (pa_cons (pv 4) pa_nil)))))))))), ?_⟩
    rcases h with ⟨a, ns, i, R, q⟩ | ⟨rs, A, hw, q⟩
    · have g := good_gp (a := a) R.sp R.gp.i_lt
      refine ⟨_, rfl, k, wd, _, rfl, R.ask, fun b hb H1 e1 => ⟨_, rfl, ?_⟩⟩
      rw [hb g]
      have R1 := R.more e1
      have hnc : wd ≠ .coloured := by rcases R.sp with rfl | rfl <;> intro z <;> cases z
      obtain ⟨hk, hk1⟩ : H k = some (.tup [.str wd.s, .ref a]) ∧ H1 k = some (.tup [.str wd.s, .ref a]) := by
        rcases R.ask.at_ with ⟨_, h⟩ | ⟨h, _⟩
        · exact ⟨h, e1 _ _ h⟩
        · exact absurd h hnc
      refine iteF ⟨_, rfl, k, _, ((0 : Nat) : Int), _, rfl, rfl, SqT.of hk1, atI_nat rfl, small2, fun p np => ⟨p, _, rfl, .inr (SqT.of upd_same), rfl, rfl, _, rfl, ite_no ?_ ?_⟩⟩
      · rw [if_pos rfl, sp_in.mpr R.sp]
        rfl
      have e2 := e1.trans (Ex.new (o := .tup [.str "sets", .str "products"]) np)
      generalize upd H1 p (.tup [.str "sets", .str "products"]) = H2 at e2
      refine ⟨_, rfl, k, wd, _, rfl, R.ask.more e2, fun H3 e3 => ⟨_, _, rfl, rfl, _, rfl, ite_no ?_ ?_⟩⟩
      · rw [g.2]
        rfl
      dsimp only [tNext]
      have e23 := e2.trans e3
      have R3 := R.more e23
      obtain ⟨o, ha, hd⟩ := R3.fz
      have hk3 := e23 _ _ hk
      have hil := R.gp.i_lt
      refine ⟨_, rfl, k, _, ((1 : Nat) : Int), .ref a, rfl, rfl, SqT.of hk3, atI_nat rfl, ?_⟩
      refine ⟨_, rfl, ⟨a, o, _, rfl, ha, hd⟩, a, oVs (gp ns i), .non, i, .non, rfl, rfl, .inl (.inr ⟨o, ha⟩), rfl, ?_, ogp_eq hil, rfl, fun m z hm hz => ?_, ?_⟩
      · rw [List.all_eq_true]
        intro x hx
        obtain ⟨j, hj⟩ := List.getElem?_of_mem hx
        obtain ⟨u, _, rfl⟩ := oVs_at hj
        cases u <;> rfl
      · rw [ogp_ne (by omega) (by omega)] at hz
        cases hz
        rfl
      dsimp only [gName]
      have G3 : Rd H3 a (.tup (oVs (gp ns i))) := .inr ⟨o, ha⟩
      have hT3 := hT.ext e23
      refine ⟨fun σ' H' => σ' = [some (.ref k), some (.ref a), some (.int (i : Int)), some (.int ((loW wd ns i : Nat) : Int)), some (oV (hiW wd ns i))] ∧ Ek (tabs T) H3 H', ?_, ?_⟩
      · rcases R.sp with rfl | rfl
        · refine ⟨_, rfl, k, _, ((0 : Nat) : Int), _, rfl, rfl, SqT.of hk3, atI_nat rfl, rfl, _, rfl, ite_yes (by decide +kernel) ?_⟩
          exact ⟨_, rfl, _, rfl, a, ns, i, rfl, G3, R.gp, hT3, fun t H4 e4 ht => ⟨t, _, rfl, SqT.of ht, rfl, _, _, rfl, _, _, rfl, rfl, rfl, e4⟩⟩
        · refine ⟨_, rfl, k, _, ((0 : Nat) : Int), _, rfl, rfl, SqT.of hk3, atI_nat rfl, rfl, _, rfl, ite_no (by decide +kernel) ?_⟩
          exact ⟨_, rfl, _, rfl, a, ns, i, rfl, G3, R.gp, hT3, fun t H4 e4 ht => ⟨t, _, rfl, SqT.of ht, rfl, _, _, rfl, _, _, rfl, rfl, rfl, e4⟩⟩
      rintro σ' H4 ⟨rfl, e4⟩
      have R4 := R3.moreK e4
      have hlo := loW_lt R.sp R.gp
      have hlo2 : loW wd ns i < 2 ^ 1900 := Nat.lt_trans hlo (Nat.pow_lt_pow_right (by decide) (by decide))
      refine ⟨_, rfl, _, rfl, small1, fun n nn => ?_⟩
      have e5 := Ex.new (o := .tup [.int ((loW wd ns i : Nat) : Int)]) nn
      refine ⟨k, n, wd, a, gp ns i, loW wd ns i, rfl, R4.ask.more e5, g, upd_same, row_set R.gp hlo2, (e4.t hT3).ext e5, fun H6 e6 => ⟨_, rfl, ?_⟩⟩
      have e06 := (((Ek.of e23).trans e4).ex e5).trans e6
      rw [fill_gp]
      unfold RetE at q
      cases hf : fitB wd (ns.set i (loW wd ns i)) with
      | false =>
        rw [hf, if_neg (by exact Bool.false_ne_true)] at q
        exact iteT (q H6 e06)
      | true =>
        rw [hf, if_pos rfl] at q
        refine iteF ?_
        dsimp only [tNext]
        exact ⟨_, rfl, _, rfl, small2, fun t nt => q t _ (e06.ex (Ex.new nt)) upd_same⟩
    · obtain ⟨ys, hk, _⟩ := A.tup
      refine ⟨_, rfl, k, wd, rs, rfl, A, fun b hb H1 e1 => ⟨_, rfl, ?_⟩⟩
      cases b with
      | false => exact iteT ⟨_, rfl, .ref k, rfl, fun dd nd => q dd _ (fresh_back e1 nd) (e1.trans (Ex.new nd)) upd_same⟩
      | true =>
        have hk1 := e1 _ _ hk
        refine iteF ⟨_, rfl, k, _, ((0 : Nat) : Int), _, rfl, rfl, SqT.of hk1, atI_nat rfl, small2, fun p np => ⟨p, _, rfl, .inr (SqT.of upd_same), rfl, rfl, _, rfl, ?_⟩⟩
        have e2 := e1.trans (Ex.new (o := .tup [.str "sets", .str "products"]) np)
        generalize upd H1 p (.tup [.str "sets", .str "products"]) = H2 at e2
        by_cases hs : isSP wd
        · refine ite_no (by rw [if_pos rfl, sp_in.mpr hs]; rfl) ?_
          refine ⟨_, rfl, k, wd, _, rfl, A.more e2, fun H3 e3 => ⟨_, _, rfl, rfl, _, rfl, ite_yes ?_ ?_⟩⟩
          · have := hw hs
            exact decide_eq_true (by omega)
          exact ⟨_, rfl, .ref k, rfl, fun dd nd => q dd _ (fresh_back (e2.trans e3) nd) ((e2.trans e3).trans (Ex.new nd)) upd_same⟩
        · refine ite_yes ?_ ?_
          · rw [if_pos rfl]
            cases hv : inV (V.str wd.s) [V.str "sets", V.str "products"] with
            | true => exact absurd (sp_in.mp hv) hs
            | false => rfl
          exact ⟨_, rfl, .ref k, rfl, fun dd nd => q dd _ (fresh_back e2 nd) (e2.trans (Ex.new nd)) upd_same⟩
end
end K88

set_option exponentiation.threshold 3000
namespace K88
open PySem PySem.Spec PyProof.Rows L2 Hr HrM Evl HrE_thing LamX RZ
theorem choose_step (a k : Nat) (h : k < a) : (((ch a k : Nat) : Int) * ((a : Int) - (k : Int))).fdiv ((k : Int) + 1) = ((ch a (k + 1) : Nat) : Int) := by
  have e1 : ((a : Int) - (k : Int)) = ((a - k : Nat) : Int) := by omega
  have e2 : ((k : Int) + 1) = ((k + 1 : Nat) : Int) := by omega
  rw [e1, e2, ← Int.natCast_mul, Int.fdiv_eq_ediv_of_nonneg _ (by omega), ← Int.natCast_ediv, ← ch_mul, Nat.mul_div_cancel _ (by omega)]
theorem ch_wide {a k : Nat} (ha : a < 2 ^ 120) (hk : k ≤ 20) : ch a k < 2 ^ 2420 := by
  refine Nat.lt_of_le_of_lt (ch_le_pow _ _) (Nat.lt_of_le_of_lt (Nat.pow_le_pow_left (Nat.le_of_lt ha) k) ?_)
  rw [← Nat.pow_mul]
  exact Nat.pow_lt_pow_right (by decide) (by omega)
theorem lt120 {a s N : Nat} (h : a ≤ 2 * (s + N) + 2) (hs : s ≤ 17) (hN : N < 2 ^ 100) : a < 2 ^ 120 := by
  have e : (2 : Nat) ^ 120 = 2 ^ 20 * 2 ^ 100 := Nat.pow_add 2 20 100
  have h3 : (32 : Nat) ≤ 2 ^ 100 := Nat.le_trans (by decide : 32 ≤ 2 ^ 5) (Nat.pow_le_pow_right (by decide) (by decide))
  rw [e]
  generalize 2 ^ 100 = z at *
  omega
section
variable {P : Program} {w : World} {K : PySem.W.Frag} {mg : Str → Option Value} {base : Heap}
def sp_choose : Sp := fun vs H Q _ => ∃ (a b : Nat), vs = [.int a, .int b] ∧ a < 2 ^ 120 ∧ b ≤ 20 ∧ Q (.int ((ch a b : Nat) : Int)) H
theorem ok_choose (T : Txt K mg) : FnOk P w K mg base CX0 2 T.f_l_choose T.d_l_choose ["a", "b"] sp_choose := by
  refine T.U_l_choose.ok sc_l_choose (fun vs H Q E h => ?_) (fun cdv A outer s H vs Q E hr h => ?_)
  · obtain ⟨_, _, rfl, _⟩ := h
    rfl
  · obtain ⟨a, b, rfl, ha, hb, q⟩ := h
    refine ⟨_, (pss_cons (ps_set (i := 2) sc_l_choose.nd rfl (.inl rfl) (pe_ifExp (pt_chain op_le op_le pe_int (pv 1) (pv 0)) pe_int pe_int))
  (pss_cons (ps_for PassesOwn.never rfl (pi_range1 rfl T.n_range (pa_cons (pe_callB (call_min2 rfl) (by rfl) T.n_min (by decide +kernel) (pa_cons (pv 1) (pa_cons (pe_op op_sub (pv 0) (pv 1)) pa_nil))) pa_nil)) (pg_name (i := 3) sc_l_choose.nd rfl (.inl rfl)) (pss_one (ps_set (i := 2) sc_l_choose.nd rfl (.inl rfl) (pe_op op_fdivN (pe_op op_mulW (pv 2) (pe_op op_sub (pv 0) (pv 3))) (pe_op op_add (pv 3) pe_int)))))
  (pss_one (ps_ret (pv 2))))), ?_⟩
    by_cases hba : b ≤ a
    · refine ⟨_, rfl, _, _, rfl, rfl, true, ?_, iteT ⟨_, rfl, _, _, rfl, rfl, true, ?_, iteT ?_⟩⟩
      · exact congrArg V.bl (decide_eq_true (Int.natCast_nonneg b))
      · exact congrArg V.bl (decide_eq_true (by omega))
      refine ⟨_, rfl, _, rfl, _, rfl, _, _, rfl, rfl, _, _, rfl, ?_⟩
      obtain ⟨m, hm, hm2, hm3⟩ : ∃ m : Nat, (if (a : Int) - (b : Int) < (b : Int) then (a : Int) - (b : Int) else (b : Int)) = (m : Int) ∧ m ≤ b ∧ ch a m = ch a b := by
        by_cases c : a - b < b
        · exact ⟨a - b, by rw [if_pos (by omega)]; omega, by omega, (ch_symm hba).symm⟩
        · exact ⟨b, by rw [if_neg (by omega)], Nat.le_refl b, rfl⟩
      have hma : m ≤ a := by omega
      rw [hm]
      refine ⟨_, rfl, by omega, by omega, ?_⟩
      rw [Int.toNat_natCast]
      refine for_range (lo := 0) (n := m) (fun i σ' H' => ∃ (y : Option V), i ≤ m ∧ σ' = [some (.int a), some (.int b), some (.int ((ch a i : Nat) : Int)), y] ∧ H' = H) ⟨none, Nat.zero_le _, by rw [ch_zero]; rfl, rfl⟩ ?_ ?_
      · rintro i σ' H' hi ⟨y, _, rfl, rfl⟩
        have e0 : (0 : Int) + (i : Int) = (i : Int) := Int.zero_add _
        rw [e0]
        refine ⟨_, rfl, _, rfl, _, rfl, _, _, rfl, rfl, _, _, rfl, rfl, wide_mul (a := 2420) (b := 121) ?_ ?_ (by decide) (by decide) (by decide), _, rfl, _, _, rfl, rfl, _, _, rfl, rfl, ⟨by omega, by omega⟩, ?_⟩
        · rw [Int.natAbs_natCast]
          exact ch_wide ha (by omega)
        · have : (2 : Nat) ^ 121 = 2 * 2 ^ 120 := Nat.pow_succ'
          omega
        · exact ⟨some (.int (i : Int)), by omega, by rw [← choose_step a i (by omega)]; rfl, rfl⟩
      · rintro σ' H' ⟨y, _, rfl, rfl⟩
        rw [hm3]
        exact ⟨_, rfl, q⟩
    · have hz : ch a b = 0 := ch_lt (by omega)
      refine ⟨_, rfl, _, _, rfl, rfl, true, ?_, iteT ⟨_, rfl, _, _, rfl, rfl, false, ?_, iteF ?_⟩⟩
      · exact congrArg V.bl (decide_eq_true (Int.natCast_nonneg b))
      · exact congrArg V.bl (decide_eq_false (by omega))
      refine ⟨_, rfl, _, rfl, _, rfl, _, _, rfl, rfl, _, _, rfl, ?_⟩
      rw [if_pos (show (a : Int) - (b : Int) < (b : Int) by omega)]
      refine ⟨_, rfl, by omega, by omega, ?_⟩
      rw [show ((a : Int) - (b : Int)).toNat = 0 by omega]
      refine for_range (lo := 0) (n := 0) (fun i σ' H' => σ' = [some (.int a), some (.int b), some (.int 0), none] ∧ H' = H) ⟨rfl, rfl⟩ (fun i σ' H' hi => absurd hi (Nat.not_lt_zero _)) ?_
      rintro σ' H' ⟨rfl, rfl⟩
      rw [hz] at q
      exact ⟨_, rfl, q⟩
def sp_greatest : Sp := fun vs H Q _ => ∃ N s : Nat, vs = [.int N, .int s] ∧ 1 ≤ N ∧ N < 2 ^ 100 ∧ 1 ≤ s ∧ s ≤ 17 ∧ ∀ a : Nat, ch a s ≤ N → N < ch (a + 1) s → Q (.int a) H
theorem ok_greatest (T : Txt K mg) : FnOk P w K mg base CX0 3 T.f_l_greatest T.d_l_greatest ["n", "s"] sp_greatest := by
  have F_l_choose := ok_choose (P := P) (w := w) (base := base) T
  refine T.U_l_greatest.ok sc_l_greatest (fun vs H Q E h => ?_) (fun cdv A outer s H vs Q E hr h => ?_)
  · obtain ⟨n, l, rfl, _⟩ := h
    rfl
  · obtain ⟨N, s, rfl, hN1, hN, hs1, hs, q⟩ := h
    refine ⟨_, (pss_cons (ps_if (pt_cmpR op_eq (pv 1) pe_int (nomark _)) (pss_one (ps_ret (pv 0))) pss_nil)
  (pss_cons (ps_par rfl sc_l_greatest.nd (i := 2) (j := 3) rfl rfl (by decide) rfl rfl (pa_cons (pv 1) (pa_cons (pe_op op_add (pv 1) pe_int) pa_nil)) (by rfl))
  (pss_cons (ps_while PassesOwn.never (pt_cmpR op_le (pe_call F_l_choose (hr.mono (by decide)) (by rfl) T.g_l_choose T.k_l_choose T.b_l_choose .nil pass0 (pa_cons (pv 3) (pa_cons (pv 1) pa_nil))) (pv 0) (nomark _)) (pss_one (ps_par rfl sc_l_greatest.nd (i := 2) (j := 3) rfl rfl (by decide) rfl rfl (pa_cons (pv 3) (pa_cons (pe_op op_mul pe_int (pv 3)) pa_nil)) (by rfl))))
  (pss_cons (ps_while PassesOwn.never (pt_cmpR op_gt (pe_op op_sub (pv 3) (pv 2)) pe_int (nomark _)) (pss_cons (ps_set (i := 4) sc_l_greatest.nd rfl (.inl rfl) (pe_op op_fdivN (pe_op op_add (pv 2) (pv 3)) pe_int))
  (pss_one (ps_if (pt_cmpR op_le (pe_call F_l_choose (hr.mono (by decide)) (by rfl) T.g_l_choose T.k_l_choose T.b_l_choose .nil pass0 (pa_cons (pv 4) (pa_cons (pv 1) pa_nil))) (pv 0) (nomark _)) (pss_one (ps_set (i := 2) sc_l_greatest.nd rfl (.inl rfl) (pv 4))) (pss_one (ps_set (i := 3) sc_l_greatest.nd rfl (.inl rfl) (pv 4)))))))
  (pss_one (ps_ret (pv 2))))))), ?_⟩
    have lim : ∀ a, ch a s ≤ N → a ≤ s + N := fun a h => by
      have := top_lt hs1 h hN1
      omega
    by_cases hs0 : s = 1
    · subst hs0
      refine ⟨_, rfl, rfl, _, rfl, ite_yes (decide_eq_true rfl) ⟨_, rfl, q N ?_ ?_⟩⟩
      · rw [ch_one]
        exact Nat.le_refl _
      · rw [ch_one]
        exact Nat.lt_succ_self _
    refine ⟨_, rfl, rfl, _, rfl, ite_no (decide_eq_false fun z => by injection z with z; omega) ?_⟩
    dsimp only [tNext]
    refine ⟨_, rfl, _, rfl, _, _, rfl, rfl, _, _, rfl, ?_⟩
    refine ⟨fun m σ H' => ∃ l h : Nat, σ = [some (.int N), some (.int s), some (.int l), some (.int h), none] ∧ H' = H ∧ m = 2 * (s + N) + 3 - h ∧ s ≤ l ∧ l < h ∧ ch l s ≤ N ∧ h ≤ 2 * (s + N) + 2,
      ⟨_, s, s + 1, rfl, rfl, rfl, Nat.le_refl _, by omega, by rw [ch_self]; exact hN1, by omega⟩, ?_⟩
    rintro m σ H' ⟨l, h, rfl, rfl, rfl, h0, h1, h2, h3⟩
    refine ⟨_, rfl, _, rfl, h, s, rfl, lt120 h3 hs hN, by omega, _, rfl, _, _, rfl, rfl, _, rfl, ite2 (fun e => ?_) (fun e => ?_)⟩
    · have e' : ch h s ≤ N := by have := of_decide_eq_true e; omega
      have l2 := lim h e'
      refine ⟨fun σ' H'' => ∃ l' h' : Nat, σ' = [some (.int N), some (.int s), some (.int l'), some (.int h'), none] ∧ H'' = H' ∧ s ≤ l' ∧ l' < h' ∧ ch l' s ≤ N ∧ h' ≤ 2 * (s + N) + 2 ∧ h < h', ?_, ?_⟩
      · rintro σ' H'' ⟨l', h', rfl, rfl, g1, g2, g3, g4, g5⟩
        exact ⟨2 * (s + N) + 3 - h', by omega, l', h', rfl, rfl, rfl, g1, g2, g3, g4⟩
      · refine ⟨_, rfl, _, rfl, _, _, rfl, rfl, .inl ⟨by decide, by decide⟩, _, _, rfl, ?_⟩
        exact ⟨h, 2 * h, rfl, rfl, by omega, by omega, e', by omega, by omega⟩
    · have e' : N < ch h s := by
        by_cases z : ch h s ≤ N
        · exact absurd (decide_eq_true (by omega)) e
        · omega
      refine ⟨fun m σ H'' => ∃ (l' h' : Nat) (y : Option V), σ = [some (.int N), some (.int s), some (.int l'), some (.int h'), y] ∧ H'' = H' ∧ m = h' - l' ∧ l' < h' ∧ h' ≤ 2 * (s + N) + 2 ∧ ch l' s ≤ N ∧ N < ch h' s,
        ⟨_, l, h, none, rfl, rfl, rfl, h1, h3, h2, e'⟩, ?_⟩
      rintro m σ H'' ⟨l, h, y, rfl, rfl, rfl, g1, g2, g3, g4⟩
      refine ⟨_, rfl, _, rfl, _, _, rfl, rfl, _, _, rfl, rfl, _, rfl, ite2 (fun e => ?_) (fun e => ?_)⟩
      · have e2 : 1 < h - l := by have := of_decide_eq_true e; omega
        refine ⟨fun σ' H2 => ∃ (l' h' : Nat) (y : Option V), σ' = [some (.int N), some (.int s), some (.int l'), some (.int h'), y] ∧ H2 = H'' ∧ l' < h' ∧ h' ≤ 2 * (s + N) + 2 ∧ ch l' s ≤ N ∧ N < ch h' s ∧ h' - l' < h - l, ?_, ?_⟩
        · rintro σ' H2 ⟨l', h', y', rfl, rfl, k1, k2, k3, k4, k5⟩
          exact ⟨h' - l', k5, l', h', y', rfl, rfl, rfl, k1, k2, k3, k4⟩
        · obtain ⟨c, hc, hc1, hc2⟩ : ∃ c : Nat, ((l : Int) + (h : Int)).fdiv 2 = (c : Int) ∧ l < c ∧ c < h := by
            rw [Int.fdiv_eq_ediv_of_nonneg _ (by decide)]
            exact ⟨(l + h) / 2, by omega, by omega, by omega⟩
          refine ⟨_, rfl, _, rfl, _, _, rfl, rfl, _, _, rfl, rfl, ⟨by decide, by decide⟩, ?_⟩
          simp only [hc]
          refine ⟨_, rfl, _, rfl, c, s, rfl, lt120 (by omega) hs hN, by omega, _, rfl, _, _, rfl, rfl, _, rfl, ite2 (fun e3 => ?_) (fun e3 => ?_)⟩
          · have e4 : ch c s ≤ N := by have := of_decide_eq_true e3; omega
            exact ⟨_, rfl, c, h, _, rfl, rfl, hc2, g2, e4, g4, by omega⟩
          · have e4 : N < ch c s := by
              by_cases z : ch c s ≤ N
              · exact absurd (decide_eq_true (by omega)) e3
              · omega
            exact ⟨_, rfl, l, c, _, rfl, rfl, hc1, by omega, g3, e4, by omega⟩
      · have e2 : h = l + 1 := by
          by_cases z : 1 < h - l
          · exact absurd (decide_eq_true (by omega)) e
          · omega
        subst e2
        exact ⟨_, rfl, q l g3 g4⟩
/-! rows of pairs -/
def Rows (H : Hp) (R : Addr) (s : Nat) (xs : List Nat) : Prop := ∃ ts : List Addr, ts.length = xs.length ∧ H R = some (.lst (ts.map V.ref)) ∧ ∀ (i a : Nat) (t : Addr), xs[i]? = some a → ts[i]? = some t → H t = some (.tup [.int a, .int ((s - i : Nat) : Int)])
theorem Rows.more {H H' : Hp} {R : Addr} {s : Nat} {xs : List Nat} (h : Rows H R s xs) (e : Ex H H') : Rows H' R s xs :=
  let ⟨ts, h1, h2, h3⟩ := h
  ⟨ts, h1, e _ _ h2, fun i a t x y => e _ _ (h3 i a t x y)⟩
def sp_l_cascade : Sp := fun vs H Q _ => ∃ N s : Nat, vs = [.int N, .int s] ∧ N < 2 ^ 100 ∧ 1 ≤ s ∧ s ≤ 17 ∧ ∀ R H', H R = none → Ex H H' → Rows H' R s (cc s N) → Q (.ref R) H'
theorem ok_l_cascade (T : Txt K mg) : FnOk P w K mg base CX0 4 T.f_l_cascade T.d_l_cascade ["n", "s"] sp_l_cascade := by
  have F_l_choose := ok_choose (P := P) (w := w) (base := base) T
  have F_l_greatest := ok_greatest (P := P) (w := w) (base := base) T
  refine T.U_l_cascade.ok sc_l_cascade (fun vs H Q E h => ?_) (fun cdv A outer s H vs Q E hr h => ?_)
  · obtain ⟨n, l, rfl, _⟩ := h
    rfl
  · obtain ⟨N, s, rfl, hN, hs1, hs, q⟩ := h
    refine ⟨_, (pss_cons (ps_set (i := 2) sc_l_cascade.nd rfl (.inl rfl) (pe_lst pa_nil))
  (pss_cons (ps_for PassesOwn.never rfl (pi_range3 rfl T.n_range (pa_cons (pv 1) (pa_cons pe_int (pa_cons (pe_un un_neg pe_int) pa_nil)))) (pg_name (i := 3) sc_l_cascade.nd rfl (.inl rfl)) (pss_one (ps_if (pt_cmpR op_gt (pv 0) pe_int (nomark _)) (pss_cons (ps_set (i := 4) sc_l_cascade.nd rfl (.inl rfl) (pe_call F_l_greatest (hr.mono (by decide)) (by rfl) T.g_l_greatest T.k_l_greatest T.b_l_greatest .nil pass0 (pa_cons (pv 0) (pa_cons (pv 3) pa_nil))))
  (pss_cons (ps_expr (pe_bm PySem.F.plainAttrs_list PySem.F.slot_list_append PySem.F.type_list_append mt_append (pv 2) (pa_cons (pe_tup (pa_cons (pv 4) (pa_cons (pv 3) pa_nil))) pa_nil)))
  (pss_one (ps_set (i := 0) sc_l_cascade.nd rfl (.inl rfl) (pe_op op_sub (pv 0) (pe_call F_l_choose (hr.mono (by decide)) (by rfl) T.g_l_choose T.k_l_choose T.b_l_choose .nil pass0 (pa_cons (pv 4) (pa_cons (pv 3) pa_nil)))))))) pss_nil)))
  (pss_one (ps_ret (pv 2))))), ?_⟩
    refine ⟨Nat.zero_le _, fun o no => ⟨_, rfl, _, rfl, _, _, _, s, rfl, RgC.neg (by omega) (by omega) (by omega) (by omega), ?_⟩⟩
    refine for_rangeC (fun i σ' H' => ∃ (xs : List Nat) (r : Nat) (y z : Option V) (ts : List Addr), σ' = [some (.int r), some (.int s), some (.ref o), y, z] ∧ Cas s xs ∧ (1 ≤ r → xs.length = i) ∧ val s xs + r = N ∧ (∀ b, xs.getLast? = some b → r < ch b (s - i)) ∧ Ex H H' ∧ ts.length = xs.length ∧ H' o = some (.lst (ts.map V.ref)) ∧ ∀ (i a : Nat) (t : Addr), xs[i]? = some a → ts[i]? = some t → H' t = some (.tup [.int a, .int ((s - i : Nat) : Int)]))
      ⟨[], N, none, none, [], rfl, Cas.nil s, fun _ => rfl, Nat.zero_add N, (fun b h => (nomatch h)), Ex.new no, rfl, upd_same, fun i a t h => by simp at h⟩ ?_ ?_
    · rintro i σ' H' hi ⟨xs, r, y, z, ts, rfl, c, h1, h2, h3, ex, htl, ho, hts⟩
      obtain ⟨m, hm, hm2⟩ : ∃ m : Nat, ((s : Int) + (i : Nat) * (-1)) = (m : Int) ∧ m = s - i := ⟨s - i, by omega, rfl⟩
      rw [hm]
      rw [← hm2] at h3
      refine ⟨_, rfl, _, _, rfl, rfl, _, rfl, ite2 (fun e => ?_) (fun e => ?_)⟩
      · have hr0 : 1 ≤ r := by have := of_decide_eq_true e; omega
        have hx := h1 hr0
        have hp : 1 ≤ m := by omega
        have hts1 : ts.length = i := htl.trans hx
        refine ⟨_, rfl, _, rfl, r, m, rfl, hr0, by omega, hp, by omega, fun a ha1 ha2 => ?_⟩
        obtain ⟨c2, hlt⟩ := cas_add c (by omega) hp hr0 h3 ha1 ha2
        refine ⟨_, rfl, .inl ⟨rfl, _, SqL.of ho⟩, _, rfl, _, rfl, small2, fun t nt => ?_⟩
        have et := Ex.new (o := .tup [.int (a : Int), .int (m : Int)]) nt
        have ho2 := et _ _ ho
        refine ⟨o, _, _, rfl, rfl, ho2, ?_, ?_⟩
        · rw [List.length_map]
          exact small1000 (by omega)
        · have hal := top_lt hp ha1 hr0
          refine ⟨_, rfl, _, rfl, _, rfl, a, m, rfl, lt120 (s := m) (N := r) (by omega) (by omega) (by omega), by omega, _, _, rfl, rfl, ?_⟩
          refine ⟨xs ++ [a], r - ch a m, some (.int m), some (.int a), ts ++ [t], ?_, c2, ?_, ?_, ?_, Ex.mut (ex.trans et) no, by rw [List.length_append, List.length_append, htl]; rfl, ?_, ?_⟩
          · have e1 : ((r : Int) - ((ch a m : Nat) : Int)) = ((r - ch a m : Nat) : Int) := by omega
            rw [← e1]
            rfl
          · intro _
            rw [List.length_append, List.length_singleton]
            omega
          · rw [val_snoc, show s - xs.length = m by omega]
            omega
          · intro b hb
            rw [List.getLast?_append] at hb
            have : a = b := by simpa using hb
            subst this
            rw [show s - (i + 1) = m - 1 by omega]
            exact hlt
          · rw [List.map_append]
            exact upd_same
          · intro j b u hb hu
            have hu2 : (upd H' t (.tup [.int (a : Int), .int (m : Int)])) u = some (.tup [.int b, .int ((s - j : Nat) : Int)]) := by
              by_cases hj : j < xs.length
              · rw [List.getElem?_append_left hj] at hb
                rw [List.getElem?_append_left (by omega)] at hu
                exact et _ _ (hts j b u hb hu)
              · by_cases hj2 : j = xs.length
                · subst hj2
                  rw [List.getElem?_append_right (Nat.le_refl _), Nat.sub_self] at hb
                  cases hb
                  rw [← htl, List.getElem?_append_right (Nat.le_refl _), Nat.sub_self] at hu
                  cases hu
                  rw [upd_same, show s - xs.length = m by omega]
                · rw [List.getElem?_eq_none (by rw [List.length_append, List.length_singleton]; omega)] at hb
                  cases hb
            have : u ≠ o := fun z => by
              subst z
              rw [ho2] at hu2
              cases hu2
            rw [upd_ne this]
            exact hu2
      · have hr0 : r = 0 := by
          by_cases z : 0 < r
          · exact absurd (decide_eq_true (by omega)) e
          · omega
        subst hr0
        refine ⟨xs, 0, some (.int m), z, ts, rfl, c, fun h => absurd h (by decide), h2, fun b hb => ?_, ex, htl, ho, hts⟩
        have hb2 : b ∈ xs := List.mem_of_getLast? hb
        obtain ⟨j, hj⟩ := List.getElem?_of_mem hb2
        have hlow := c.low j b hj
        have hjl := (List.getElem?_eq_some_iff.mp hj).1
        have h4 := h3 b hb
        have h5 : m ≤ b := by
          by_cases z : m ≤ b
          · exact z
          · rw [ch_lt (by omega)] at h4
            omega
        exact ch_pos (by omega)
    · rintro σ' H' ⟨xs, r, y, z, ts, rfl, c, h1, h2, h3, ex, htl, ho, hts⟩
      have hr0 : r = 0 := by
        by_cases z : r = 0
        · exact z
        · have hx := h1 (by omega)
          cases hl : xs.getLast? with
          | none =>
            rw [List.getLast?_eq_none_iff] at hl
            subst hl
            simp at hx
            omega
          | some b =>
            have := h3 b hl
            rw [Nat.sub_self, ch_zero] at this
            omega
      subst hr0
      have e := cc_eq hs1 c (show val s xs = N by omega)
      subst e
      exact ⟨_, rfl, q o H' no ex ⟨ts, htl, ho, hts⟩⟩
theorem sum_rows {H : Hp} {s : Nat} {xs : List Nat} {v0 v1 : V} {ta ti tl : TE} {Q : VK} (hl : ∀ Q', (∀ R H1, Ex H H1 → Rows H1 R s xs → Q' (.ref R) H1) → tl [some v0, some v1, none, none] H Q') (hx : xs.length ≤ 40) (g : Nat → Nat → Nat)
    (he : ∀ (i a : Nat), xs[i]? = some a → ∀ H', Ex H H' → Ev (tCall sp_choose [] E0 (tCons ta (tCons ti tNil))) [some v0, some v1, some (.int a), some (.int ((s - i : Nat) : Int))] H' (.int ((g a (s - i) : Nat) : Int)))
    (q : ∀ H', Ex H H' → Q (.int ((four g s xs : Nat) : Int)) H') :
    tCB (rSum K) (tCons (tLc (iList K tl) (gTup K 2 (gCons (gName 2) (gCons (gName 3) gNil))) tYes (tCall sp_choose [] E0 (tCons ta (tCons ti tNil))) [2, 3]) tNil) [some v0, some v1, none, none] H Q := by
  refine r_cb (r_arg ?_)
  refine hl _ fun R H1 e1 hR => ?_
  obtain ⟨ts, h1, h2, h3⟩ := hR
  refine ⟨R, rfl, ⟨_, SqL.of h2⟩, lcW (g := gTup K 2 (gCons (gName 2) (gCons (gName 3) gNil))) (tt := tYes) (te := tCall sp_choose [] E0 (tCons ta (tCons ti tNil))) (vs := [2, 3]) (σ := [some v0, some v1, none, none]) (Q := fun x H1 => tNil [some v0, some v1, none, none] H1 fun xs H2 => rSum K (x :: xs) H2 Q) (walk_list (K := K) (a := R) (xs := ts.map V.ref)) (fun _ => true) (fun i => .int (((terms g s xs).getD i 0 : Nat) : Int)) (by rw [List.length_map]; omega) (fun H2 e2 => SqL.of (e2 _ _ h2)) (fun i H1 x H2 y => by rw [y.1]; exact Ex.refl _) ?_ ?_⟩
  · rintro i x H2 H3 hi e ⟨rfl, hx⟩
    rw [List.length_map] at hi
    have hi2 : i < xs.length := by omega
    have ht : ts[i]? = some ts[i] := List.getElem?_eq_getElem hi
    have ha : xs[i]? = some xs[i] := List.getElem?_eq_getElem hi2
    rw [List.getElem?_map, ht] at hx
    cases hx
    have ht2 := e _ _ (h3 i _ _ ha ht)
    refine ⟨[some v0, some v1, some (.int xs[i]), some (.int ((s - i : Nat) : Int))], fun k hk => ?_, rfl, et_yes, fun _ => ?_⟩
    · exact ⟨_, _, rfl, SqT.of ht2, rfl, _, _, rfl, _, _, rfl, rfl, hk⟩
    · have e5 : (terms g s xs).getD i 0 = g xs[i] (s - i) := by
        rw [List.getD_eq_getElem?_getD, terms_get, ha]
        rfl
      rw [e5]
      exact he i _ ha _ (e1.trans e)
  · intro p H2 np e hp
    rw [given_all] at hp
    rw [tz_range _ (by rw [terms_len, List.length_map, h1])] at hp
    refine ⟨p, iz (terms g s xs), rfl, SqL.of hp, ?_⟩
    rw [iz_sum]
    exact q H2 (e1.trans e)
def sp_ln (h : Nat → Nat → Nat) : Sp := fun vs H Q _ => ∃ (n S : Int) (N s : Nat), vs = [.int n, .int S] ∧ n = N ∧ S = s ∧ N < 2 ^ 100 ∧ 1 ≤ s ∧ s ≤ 17 ∧ RetV (.int ((h s N : Nat) : Int)) H Q
theorem cas_item {s n i a : Nat} {xs : List Nat} (c : Cas s xs) (v : val s xs = n) (ha : xs[i]? = some a) : a < n + s := by
  have h1 := val_ge s xs i a ha
  have hl := c.low i a ha
  have hi := (List.getElem?_eq_some_iff.mp ha).1
  have hs := c.len
  have h0 := ch_pos hl
  have := top_lt (a := a) (p := s - i) (r := n) (by omega) (by omega) (by omega)
  omega
theorem ok_l_lower_sets (T : Txt K mg) : FnOk P w K mg base CX0 5 T.f_l_lower_sets T.d_l_lower_sets ["n", "s"] (sp_ln (Lf 0)) := by
  have F_l_choose := ok_choose (P := P) (w := w) (base := base) T
  have F_l_cascade := ok_l_cascade (P := P) (w := w) (base := base) T
  refine T.U_l_lower_sets.ok sc_l_lower_sets (fun vs H Q E h => ?_) (fun cdv A outer s H vs Q E hr h => ?_)
  · obtain ⟨_, _, _, _, rfl, _⟩ := h
    rfl
  · obtain ⟨_, _, N, s, rfl, rfl, rfl, hN, hs1, hs, q⟩ := h
    refine ⟨_, (pss_one (ps_ret (pe_callB (cr_sum rfl) (by rfl) T.n_sum (by decide +kernel) (pa_cons (pe_lc (own := [("a", 2), ("i", 3)]) (g := gTup K 2 (gCons (gName 2) (gCons (gName 3) (gNil)))) (tt := tYes) rfl sc_l_lower_sets.nd (pi_list (pe_call F_l_cascade (hr.mono (by decide)) (by rfl) T.g_l_cascade T.k_l_cascade T.b_l_cascade .nil pass0 (pa_cons (pv 0) (pa_cons (pv 1) pa_nil)))) (blkOk_by (own := [("a", 2), ("i", 3)]) (N := ["n", "s", "a", "i"]) (sc := defScope s_l_lower_sets) (by decide +kernel)) (fun _ _ _ _ _ => pg_tup rfl (pgs_cons (pg_name (i := 2) sc_l_lower_sets.nd rfl (Or.inl rfl)) (pgs_cons (pg_name (i := 3) sc_l_lower_sets.nd rfl (Or.inl rfl)) pgs_nil))) (fun _ _ _ _ _ => pts_nil) (fun _ _ _ _ _ => (pe_call F_l_choose (hr.mono (by decide)) (by rfl) T.g_l_choose T.k_l_choose T.b_l_choose .nil pass0 (pa_cons (pv 2) (pa_cons (pe_op op_sub (pv 3) pe_int) pa_nil))))) pa_nil)))), ?_⟩
    have C := cc_cas (s := s) (n := N) hs1
    have hl := C.1.len
    refine r_ret (sum_rows (K := K) (s := s) (xs := cc s N) (fun Q' q' => ⟨_, rfl, _, rfl, N, s, rfl, hN, hs1, hs, fun R H1 _ e1 hR => q' R H1 e1 hR⟩) (by omega) gLS (fun i a ha H' e => ?_) (fun H' e => ?_))
    · have hi := (List.getElem?_eq_some_iff.mp ha).1
      have hlow := C.1.low i a ha
      have hit : a < N + s := cas_item C.1 C.2 ha
      intro H3 e3 Q3 q3
      refine ⟨_, rfl, _, rfl, _, _, rfl, rfl, a, s - i - 1, by show ([V.int (a : Int), V.int (((s - i : Nat) : Int) - 1)] : List V) = _; rw [show (((s - i : Nat)) : Int) - 1 = ((s - i - 1 : Nat) : Int) by omega], lt120 (s := s) (N := N) (by omega) hs hN, by omega, ?_⟩
      exact q3 H3 (Ex.refl _)
    · have := numLS s (cc s N) C.1 hs1
      rw [C.2] at this
      rw [this]
      exact q H' e
theorem ok_l_upper_products (T : Txt K mg) : FnOk P w K mg base CX0 5 T.f_l_upper_products T.d_l_upper_products ["n", "s"] (sp_ln (Uf 1)) := by
  have F_l_choose := ok_choose (P := P) (w := w) (base := base) T
  have F_l_cascade := ok_l_cascade (P := P) (w := w) (base := base) T
  refine T.U_l_upper_products.ok sc_l_upper_products (fun vs H Q E h => ?_) (fun cdv A outer s H vs Q E hr h => ?_)
  · obtain ⟨_, _, _, _, rfl, _⟩ := h
    rfl
  · obtain ⟨_, _, N, s, rfl, rfl, rfl, hN, hs1, hs, q⟩ := h
    refine ⟨_, (pss_one (ps_ret (pe_callB (cr_sum rfl) (by rfl) T.n_sum (by decide +kernel) (pa_cons (pe_lc (own := [("a", 2), ("i", 3)]) (g := gTup K 2 (gCons (gName 2) (gCons (gName 3) (gNil)))) (tt := tYes) rfl sc_l_upper_products.nd (pi_list (pe_call F_l_cascade (hr.mono (by decide)) (by rfl) T.g_l_cascade T.k_l_cascade T.b_l_cascade .nil pass0 (pa_cons (pv 0) (pa_cons (pv 1) pa_nil)))) (blkOk_by (own := [("a", 2), ("i", 3)]) (N := ["n", "s", "a", "i"]) (sc := defScope s_l_upper_products) (by decide +kernel)) (fun _ _ _ _ _ => pg_tup rfl (pgs_cons (pg_name (i := 2) sc_l_upper_products.nd rfl (Or.inl rfl)) (pgs_cons (pg_name (i := 3) sc_l_upper_products.nd rfl (Or.inl rfl)) pgs_nil))) (fun _ _ _ _ _ => pts_nil) (fun _ _ _ _ _ => (pe_call F_l_choose (hr.mono (by decide)) (by rfl) T.g_l_choose T.k_l_choose T.b_l_choose .nil pass0 (pa_cons (pe_op op_add (pv 2) pe_int) (pa_cons (pe_op op_add (pv 3) pe_int) pa_nil))))) pa_nil)))), ?_⟩
    have C := cc_cas (s := s) (n := N) hs1
    have hl := C.1.len
    refine r_ret (sum_rows (K := K) (s := s) (xs := cc s N) (fun Q' q' => ⟨_, rfl, _, rfl, N, s, rfl, hN, hs1, hs, fun R H1 _ e1 hR => q' R H1 e1 hR⟩) (by omega) gUP (fun i a ha H' e => ?_) (fun H' e => ?_))
    · have hi := (List.getElem?_eq_some_iff.mp ha).1
      have hlow := C.1.low i a ha
      have hit : a < N + s := cas_item C.1 C.2 ha
      intro H3 e3 Q3 q3
      refine ⟨_, rfl, _, _, rfl, rfl, _, rfl, _, _, rfl, rfl, a + 1, s - i + 1, rfl, lt120 (s := s) (N := N) (by omega) hs hN, by omega, ?_⟩
      exact q3 H3 (Ex.refl _)
    · have := numUP s (cc s N) C.1 hs1
      rw [C.2] at this
      rw [this]
      exact q H' e
theorem ok_l_upper_sets (T : Txt K mg) : FnOk P w K mg base CX0 5 T.f_l_upper_sets T.d_l_upper_sets ["n", "s"] (sp_ln (Uf 0)) := by
  have F_l_choose := ok_choose (P := P) (w := w) (base := base) T
  have F_l_cascade := ok_l_cascade (P := P) (w := w) (base := base) T
  refine T.U_l_upper_sets.ok sc_l_upper_sets (fun vs H Q E h => ?_) (fun cdv A outer s H vs Q E hr h => ?_)
  · obtain ⟨_, _, _, _, rfl, _⟩ := h
    rfl
  · obtain ⟨_, _, N, s, rfl, rfl, rfl, hN, hs1, hs, q⟩ := h
    refine ⟨_, (pss_one (ps_ret (pe_callB (cr_sum rfl) (by rfl) T.n_sum (by decide +kernel) (pa_cons (pe_lc (own := [("a", 2), ("i", 3)]) (g := gTup K 2 (gCons (gName 2) (gCons (gName 3) (gNil)))) (tt := tYes) rfl sc_l_upper_sets.nd (pi_list (pe_call F_l_cascade (hr.mono (by decide)) (by rfl) T.g_l_cascade T.k_l_cascade T.b_l_cascade .nil pass0 (pa_cons (pv 0) (pa_cons (pv 1) pa_nil)))) (blkOk_by (own := [("a", 2), ("i", 3)]) (N := ["n", "s", "a", "i"]) (sc := defScope s_l_upper_sets) (by decide +kernel)) (fun _ _ _ _ _ => pg_tup rfl (pgs_cons (pg_name (i := 2) sc_l_upper_sets.nd rfl (Or.inl rfl)) (pgs_cons (pg_name (i := 3) sc_l_upper_sets.nd rfl (Or.inl rfl)) pgs_nil))) (fun _ _ _ _ _ => pts_nil) (fun _ _ _ _ _ => (pe_call F_l_choose (hr.mono (by decide)) (by rfl) T.g_l_choose T.k_l_choose T.b_l_choose .nil pass0 (pa_cons (pv 2) (pa_cons (pe_op op_add (pv 3) pe_int) pa_nil))))) pa_nil)))), ?_⟩
    have C := cc_cas (s := s) (n := N) hs1
    have hl := C.1.len
    refine r_ret (sum_rows (K := K) (s := s) (xs := cc s N) (fun Q' q' => ⟨_, rfl, _, rfl, N, s, rfl, hN, hs1, hs, fun R H1 _ e1 hR => q' R H1 e1 hR⟩) (by omega) gUS (fun i a ha H' e => ?_) (fun H' e => ?_))
    · have hi := (List.getElem?_eq_some_iff.mp ha).1
      have hlow := C.1.low i a ha
      have hit : a < N + s := cas_item C.1 C.2 ha
      intro H3 e3 Q3 q3
      refine ⟨_, rfl, _, rfl, _, _, rfl, rfl, a, s - i + 1, rfl, lt120 (s := s) (N := N) (by omega) hs hN, by omega, ?_⟩
      exact q3 H3 (Ex.refl _)
    · have := numUS s (cc s N) C.1 hs1
      rw [C.2] at this
      rw [this]
      exact q H' e
theorem ok_l_lower_products (T : Txt K mg) : FnOk P w K mg base CX0 5 T.f_l_lower_products T.d_l_lower_products ["n", "s"] (sp_ln (Lf 1)) := by
  have F_l_choose := ok_choose (P := P) (w := w) (base := base) T
  have F_l_cascade := ok_l_cascade (P := P) (w := w) (base := base) T
  refine T.U_l_lower_products.ok sc_l_lower_products (fun vs H Q E h => ?_) (fun cdv A outer s H vs Q E hr h => ?_)
  · obtain ⟨_, _, _, _, rfl, _⟩ := h
    rfl
  · obtain ⟨_, _, N, s, rfl, rfl, rfl, hN, hs1, hs, q⟩ := h
    refine ⟨_, (pss_one (ps_ret (pe_callB (cr_sum rfl) (by rfl) T.n_sum (by decide +kernel) (pa_cons (pe_lc (own := [("a", 2), ("i", 3)]) (g := gTup K 2 (gCons (gName 2) (gCons (gName 3) (gNil)))) (tt := tYes) rfl sc_l_lower_products.nd (pi_list (pe_call F_l_cascade (hr.mono (by decide)) (by rfl) T.g_l_cascade T.k_l_cascade T.b_l_cascade .nil pass0 (pa_cons (pv 0) (pa_cons (pv 1) pa_nil)))) (blkOk_by (own := [("a", 2), ("i", 3)]) (N := ["n", "s", "a", "i"]) (sc := defScope s_l_lower_products) (by decide +kernel)) (fun _ _ _ _ _ => pg_tup rfl (pgs_cons (pg_name (i := 2) sc_l_lower_products.nd rfl (Or.inl rfl)) (pgs_cons (pg_name (i := 3) sc_l_lower_products.nd rfl (Or.inl rfl)) pgs_nil))) (fun _ _ _ _ _ => pts_nil) (fun _ _ _ _ _ => (pe_call F_l_choose (hr.mono (by decide)) (by rfl) T.g_l_choose T.k_l_choose T.b_l_choose .nil pass0 (pa_cons (pe_op op_sub (pv 2) pe_int) (pa_cons (pe_op op_sub (pv 3) pe_int) pa_nil))))) pa_nil)))), ?_⟩
    have C := cc_cas (s := s) (n := N) hs1
    have hl := C.1.len
    refine r_ret (sum_rows (K := K) (s := s) (xs := cc s N) (fun Q' q' => ⟨_, rfl, _, rfl, N, s, rfl, hN, hs1, hs, fun R H1 _ e1 hR => q' R H1 e1 hR⟩) (by omega) gLP (fun i a ha H' e => ?_) (fun H' e => ?_))
    · have hi := (List.getElem?_eq_some_iff.mp ha).1
      have hlow := C.1.low i a ha
      have hit : a < N + s := cas_item C.1 C.2 ha
      intro H3 e3 Q3 q3
      refine ⟨_, rfl, _, _, rfl, rfl, _, rfl, _, _, rfl, rfl, a - 1, s - i - 1, by show ([V.int ((a : Int) - 1), V.int (((s - i : Nat) : Int) - 1)] : List V) = _; rw [show (((s - i : Nat)) : Int) - 1 = ((s - i - 1 : Nat) : Int) by omega, show (a : Int) - 1 = ((a - 1 : Nat) : Int) by omega], lt120 (s := s) (N := N) (by omega) hs hN, by omega, ?_⟩
      exact q3 H3 (Ex.refl _)
    · have := numLP s (cc s N) C.1 hs1
      rw [C.2] at this
      rw [this]
      exact q H' e
end
end K88

namespace K88
open PySem PySem.Spec PyProof.Rows L2 Hr HrM Evl
section
variable {P : Program} {w : World} {K : PySem.W.Frag} {mg : Str → Option Value} {base : Heap}
def sp_draw : Sp := fun vs H Q _ => ∃ (G : Hp) (d : Addr) (m : Int), vs = [.ref d, .int m] ∧ 1 ≤ m ∧ m ≤ 10000000000000000000000 ∧ Dk G d H ∧ ∀ (r : Int) (H' : Hp), 0 ≤ r → r < m → Dk G d H' → Q (.int r) H'
theorem ok_draw (T : Txt K mg) : FnOk P w K mg base CX0 2 T.f_l_draw T.d_l_draw ["deck", "many"] sp_draw := by
  refine T.U_l_draw.ok sc_l_draw (fun vs H Q E h => ?_) (fun cdv A outer s H vs Q E hr h => ?_)
  · obtain ⟨_, _, _, rfl, _⟩ := h
    rfl
  · obtain ⟨G, d, m, rfl, hm1, hm2, ⟨c, cells, mx, n, k⟩, q⟩ := h
    refine ⟨_, (pss_cons (ps_dput (hu_of hr) (pv 0) pe_str (pe_op op_add (pe_dget (hu_of hr) (pv 0) pe_str (fun _ _ => rfl)) pe_int) rfl)
  (pss_cons (ps_set (i := 2) sc_l_draw.nd rfl (.inl rfl) (pe_op op_add (pe_dget (hu_of hr) (pv 0) pe_str (fun _ _ => rfl)) (pe_op op_mul pe_int (pe_dget (hu_of hr) (pv 0) pe_str (fun _ _ => rfl)))))
  (pss_cut (ps_if (pt_cmpR (op_neD hr.units) (pe_dget (hu_of hr) (pv 0) pe_str (fun _ _ => rfl)) (pe_lst pa_nil) (nomark _)) (pss_cons (ps_set (i := 3) sc_l_draw.nd rfl (.inl rfl) (pe_bm0 PySem.F.plainAttrs_list PySem.F.slot_list_pop PySem.F.type_list_pop mt_pop (pe_dget (hu_of hr) (pv 0) pe_str (fun _ _ => rfl))))
  (pss_cons (ps_if (pt_cmpR op_ge (pv 3) (pe_op op_pow pe_int pe_int) (nomark _)) (pss_cons (ps_expr (pe_bm PySem.F.plainAttrs_list PySem.F.slot_list_append PySem.F.type_list_append mt_append (pe_dget (hu_of hr) (pv 0) pe_str (fun _ _ => rfl)) (pa_cons (pe_op op_fdivW (pv 3) (pe_callB (call_max2 rfl) (by rfl) T.n_max (by decide +kernel) (pa_cons pe_int (pa_cons (pv 1) pa_nil)))) pa_nil)))
  (pss_one (ps_ret (pe_op op_modN (pe_callTy call_int1 (by rfl) T.n_int (by decide +kernel) (pa_cons (pv 3) pa_nil)) (pv 1))))) pss_nil)
  (pss_one (ps_set (i := 2) sc_l_draw.nd rfl (.inl rfl) (pe_op op_add (pv 2) (pe_op op_modN (pe_callTy call_int1 (by rfl) T.n_int (by decide +kernel) (pa_cons (pv 3) pa_nil)) pe_int)))))) pss_nil)
  (pss_cut (ps_set (i := 2) sc_l_draw.nd rfl (.inl rfl) (pe_op op_modN (pe_callTy call_int1 (by rfl) T.n_int (by decide +kernel) (pa_cons (pe_op op_add (pe_op op_mul (pv 2) pe_int) pe_int) pa_nil)) pe_int))
  (pss_cons (ps_set (i := 2) sc_l_draw.nd rfl (.inl rfl) (pe_op op_modN (pe_callTy call_int1 (by rfl) T.n_int (by decide +kernel) (pa_cons (pe_op op_add (pe_op op_add (pe_op op_mul (pv 2) (pv 2)) (pe_op op_mul pe_int (pe_dget (hu_of hr) (pv 0) pe_str (fun _ _ => rfl)))) pe_int) pa_nil)) pe_int))
  (pss_cons (ps_set (i := 2) sc_l_draw.nd rfl (.inl rfl) (pe_op op_modN (pe_callTy call_int1 (by rfl) T.n_int (by decide +kernel) (pa_cons (pe_op op_mul (pv 2) pe_int) pa_nil)) pe_int))
  (pss_one (ps_ret (pe_op op_modN (pe_callTy call_int1 (by rfl) T.n_int (by decide +kernel) (pa_cons (pe_op op_fdivN (pv 2) pe_int) pa_nil)) (pv 1)))))))))), ?_⟩
    -- deck['draws'] = deck['draws'] + 1
    refine ⟨_, rfl, d, _, rfl, k.gdraws, _, _, rfl, rfl, _, rfl, d, _, rfl, k.pdraws, ?_⟩
    have k1 := k.draw (n' := n + 1)
    -- number = ..
    refine ⟨_, rfl, d, _, rfl, k1.gmixed, _, rfl, d, _, rfl, k1.gdraws, _, _, rfl, rfl, .inl ⟨by decide, by decide⟩, _, _, rfl, rfl, ?_⟩
    refine ⟨fun σ' H' => ∃ (z : Int) (y : Option V), σ' = [some (.ref d), some (.int m), some (.int z), y] ∧ Dk G d H', ?_, ?_⟩
    · -- if deck['cells'] != []
      refine ⟨_, rfl, d, _, rfl, k1.gcells, Nat.zero_le _, fun e ne => ?_⟩
      have k2 := k1.new (o := .lst []) ne
      refine ⟨izD cells, izD [], izD_dp (SqL.of k2.hc), izD_dp (xs := []) (SqL.of upd_same), izD_shaped _, izD_shaped _, _, rfl, ?_⟩
      rw [izD_eqv_nil]
      cases hx : cells with
      | nil =>
        refine iteF ⟨_, none, rfl, c, cells, mx, n + 1, k2⟩
      | cons x0 xs0 =>
        rw [← hx]
        have he : (!cells.isEmpty) = true := by rw [hx]; rfl
        rw [he]
        have hpos : cells.length ≠ 0 := by rw [hx]; exact Nat.succ_ne_zero _
        refine iteT ?_
        obtain ⟨x, hlast⟩ : ∃ x, cells[cells.length - 1]? = some x := ⟨_, List.getElem?_eq_getElem (by omega)⟩
        have k3 := k2.cell (xs := cells.dropLast) (by rw [List.length_dropLast]; have := k2.len; omega)
        refine ⟨_, rfl, d, _, rfl, k2.gcells, .inl ⟨rfl, _, SqL.of k2.hc⟩, c, _, .int x, rfl, rfl, k2.hc, ?_, ?_⟩
        · rw [List.length_map, List.getElem?_map, hlast]
          rfl
        rw [← List.map_dropLast]
        -- if cell >= 10 ** 18
        refine ⟨_, rfl, _, _, rfl, rfl, ⟨by decide, by decide, by decide⟩, _, _, rfl, rfl, _, rfl, ite2 (fun _ => ?_) (fun _ => ?_)⟩
        · refine ⟨_, rfl, d, _, rfl, k3.gcells, .inl ⟨rfl, _, SqL.of k3.hc⟩, _, rfl, _, rfl, _, _, rfl, _, _, rfl, rfl, ?_, c, _, _, rfl, rfl, k3.hc, ?_, ?_⟩
          · refine wide_div (b := 75) (by split <;> omega) ?_ (by decide) (by decide)
            have h75 : (10000000000000000000000 : Nat) < 2 ^ 75 := by decide
            split <;> omega
          · rw [List.length_map, List.length_dropLast]
            exact small1000 (by have := k2.len; omega)
          · have k4 : DkC G d c (cells.dropLast ++ [x / (if m > 2 then m else 2)]) mx (n + 1) _ := k3.cell (by rw [List.length_append, List.length_singleton, List.length_dropLast]; have := k2.len; omega)
            rw [List.map_append] at k4
            refine ⟨_, rfl, .inl ⟨_, rfl, _, rfl, _, _, rfl, rfl, by show m ≠ 0; omega, ?_⟩⟩
            exact q _ _ (Int.fmod_nonneg_of_pos _ (by omega)) (Int.fmod_lt_of_pos _ (by omega)) ⟨c, _, mx, n + 1, k4⟩
        · refine ⟨_, rfl, _, rfl, .inl ⟨_, rfl, _, _, rfl, rfl, by simp, _, _, rfl, rfl, _, _, rfl, ?_⟩⟩
          exact ⟨c, _, mx, n + 1, k3⟩
    · rintro σ' H' ⟨z, y, rfl, c, cells, mx, n, k⟩
      refine ⟨fun σ' H' => ∃ v : Int, 0 ≤ v ∧ v < 2147483647 ∧ σ' = [some (.ref d), some (.int m), some (.int v), y] ∧ Dk G d H', ?_, ?_⟩
      · refine ⟨_, rfl, _, _, rfl, rfl, .inr ⟨by decide, by decide⟩, _, _, rfl, rfl, .inl ⟨_, rfl, _, _, rfl, rfl, by simp, ?_⟩⟩
        exact ⟨_, Int.fmod_nonneg_of_pos _ (by decide), Int.fmod_lt_of_pos _ (by decide), rfl, c, cells, mx, n, k⟩
      rintro σ' H' ⟨v, hv0, hv1, rfl, c, cells, mx, n, k⟩
      refine ⟨_, rfl, _, rfl, _, _, rfl, rfl, .inl ⟨by omega, by omega⟩, _, rfl, d, _, rfl, k.gdraws, _, _, rfl, rfl, .inl ⟨by decide, by decide⟩, _, _, rfl, rfl, _, _, rfl, rfl, .inl ⟨_, rfl, _, _, rfl, rfl, by simp, ?_⟩⟩
      refine ⟨_, rfl, _, _, rfl, rfl, .inr ⟨by decide, by decide⟩, .inl ⟨_, rfl, _, _, rfl, rfl, by simp, ?_⟩⟩
      refine ⟨_, rfl, _, _, rfl, rfl, ⟨by decide, by decide⟩, .inl ⟨_, rfl, _, rfl, _, _, rfl, rfl, by show m ≠ 0; omega, ?_⟩⟩
      exact q _ _ (Int.fmod_nonneg_of_pos _ (by omega)) (Int.fmod_lt_of_pos _ (by omega)) ⟨c, cells, mx, n, k⟩

theorem cut_ints (ns : List Int) (lo hi : Option Int) : ∃ zs : List Int, cutV (ns.map V.int) lo hi = zs.map V.int ∧ zs.length ≤ ns.length := by
  refine ⟨(ns.drop (HT.sIx (ns.map V.int).length 0 lo)).take (HT.sIx (ns.map V.int).length (ns.map V.int).length hi - HT.sIx (ns.map V.int).length 0 lo), ?_, ?_⟩
  · unfold cutV
    rw [List.map_take, List.map_drop]
  · rw [List.length_take, List.length_drop]
    omega
def sp_deck : Sp := fun vs H Q _ => ∃ (K : PySem.W.Frag) (a : Addr) (ns : List Int), vs = [.ref a] ∧ SqL K H a (ns.map V.int) ∧ ns.length ≤ 63 ∧ ∀ d H', Dk H d H' → Q (.ref d) H'
def sp_deckK (K : PySem.W.Frag) : Sp := fun vs H Q _ => ∃ (a : Addr) (ns : List Int), vs = [.ref a] ∧ SqL K H a (ns.map V.int) ∧ ns.length ≤ 63 ∧ ∀ d H', Dk H d H' → Q (.ref d) H'
theorem ok_deck (T : Txt K mg) : FnOk P w K mg base CX0 2 T.f_l_deck T.d_l_deck ["script"] (sp_deckK K) := by
  refine T.U_l_deck.ok sc_l_deck (fun vs H Q E h => ?_) (fun cdv A outer s H vs Q E hr h => ?_)
  · obtain ⟨_, _, rfl, _⟩ := h
    rfl
  · obtain ⟨a, ns, rfl, hS, hl, q⟩ := h
    refine ⟨_, (pss_cons (ps_set (i := 1) sc_l_deck.nd rfl (.inl rfl) pe_int)
  (pss_cons (ps_for PassesOwn.never rfl (pi_list (pe_slice sl_list (pv 0) po_none (po_some pe_int))) (pg_name (i := 2) sc_l_deck.nd rfl (.inl rfl)) (pss_one (ps_set (i := 1) sc_l_deck.nd rfl (.inl rfl) (pe_op op_modN (pe_callTy call_int1 (by rfl) T.n_int (by decide +kernel) (pa_cons (pe_op op_add (pe_op op_add (pe_op op_mul (pv 1) pe_int) (pe_op op_modN (pe_callTy call_int1 (by rfl) T.n_int (by decide +kernel) (pa_cons (pv 2) pa_nil)) pe_int)) pe_int) pa_nil)) pe_int))))
  (pss_one (ps_ret (pe_disp (pps_cons pe_str (pe_revL (pe_callTy call_list_of (by rfl) T.n_list (by decide +kernel) (pa_cons (pe_slice sl_list (pv 0) po_none (po_some pe_int)) pa_nil))) (pps_cons pe_str (pv 1) (pps_cons pe_str pe_int pps_nil))) (by rfl) (by rfl) (fun z => by cases z) (by decide)))))), ?_⟩
    refine ⟨_, rfl, 63, rfl, a, _, rfl, hS, fun p np => ?_⟩
    obtain ⟨zs, ez, hz⟩ := cut_ints ns none (some 63)
    rw [ez]
    have e1 : Ex H (upd H p (.lst (zs.map V.int))) := Ex.new np
    have hp : SqL K (upd H p (.lst (zs.map V.int))) p (zs.map V.int) := SqL.of upd_same
    refine ⟨p, rfl, ⟨_, hp⟩, ?_⟩
    refine for_list (xs := zs.map V.int) (fun i σ' H' => ∃ (m : Int) (y : Option V), 0 ≤ m ∧ m < 2147483587 ∧ σ' = [some (.ref a), some (.int m), y] ∧ H' = upd H p (.lst (zs.map V.int))) ⟨_, none, by decide, by decide, rfl, rfl⟩ ?_ ?_ ?_
    · rintro i σ' H' _ ⟨_, _, _, _, _, rfl⟩
      exact hp
    · rintro i x σ' H' hx ⟨m, y, hm0, hm1, rfl, rfl⟩
      obtain ⟨z, rfl⟩ : ∃ z : Int, x = .int z := by
        rw [List.getElem?_map] at hx
        cases h : zs[i]? with
        | none => rw [h] at hx; cases hx
        | some z => rw [h] at hx; cases hx; exact ⟨z, rfl⟩
      refine ⟨_, rfl, _, _, rfl, rfl, .inr ⟨by decide, by decide⟩, _, rfl, .inl ⟨_, rfl, _, _, rfl, rfl, by simp, _, _, rfl, rfl, _, _, rfl, rfl, .inl ⟨_, rfl, _, _, rfl, rfl, by simp, ?_⟩⟩⟩
      exact ⟨_, _, Int.fmod_nonneg_of_pos _ (by decide), Int.fmod_lt_of_pos _ (by decide), rfl, rfl⟩
    · rintro σ' H' ⟨m, y, hm0, hm1, rfl, rfl⟩
      refine fun d nd => ?_
      have e2 := e1.trans (Ex.new (o := .dK []) nd)
      refine ⟨_, rfl, 63, rfl, a, _, rfl, ex_l e2 hS, fun l1 n1 => ?_⟩
      rw [ez]
      refine ⟨l1, _, rfl, .inl (SqL.of upd_same), fun l2 n2 => ⟨l2, _, rfl, SqL.of upd_same, fun c nc => ⟨_, rfl, ?_⟩⟩⟩
      have dc : d ≠ c := ne_of_none ((Ex.new n2) _ _ ((Ex.new n1) _ _ upd_same)) nc
      have hd : (upd (upd (upd (upd (upd H p (.lst (zs.map V.int))) d (.dK [])) l1 (.lst (zs.map V.int))) l2 (.lst (zs.map V.int))) c (.lst (zs.map V.int).reverse)) d = some (.dK []) :=
        (Ex.new nc) _ _ ((Ex.new n2) _ _ ((Ex.new n1) _ _ upd_same))
      refine ⟨hd, [(kC, .ref c), (kM, .int m), (kD, .int 0)], rfl, by show 3 ≤ 15; decide, ?_⟩
      rw [deck_made]
      have ex : Ex H (upd (upd (upd (upd (upd H p (.lst (zs.map V.int))) d (.dK [])) l1 (.lst (zs.map V.int))) l2 (.lst (zs.map V.int))) c (.lst (zs.map V.int).reverse)) :=
        e2.trans ((Ex.new n1).trans ((Ex.new n2).trans (Ex.new nc)))
      refine q d _ ⟨c, zs.reverse, m, 0, Ex.mut ex (fresh_back e1 nd), fresh_back e1 nd, fresh_back (e2.trans ((Ex.new n1).trans (Ex.new n2))) nc, upd_same, ?_, by rw [List.length_reverse]; omega, hm0, by omega⟩
      rw [upd_ne dc.symm, upd_same, List.map_reverse]

def sp_pick : Sp := fun vs H Q _ => ∃ (G : Hp) (d s : Addr) (xs : List V), vs = [.ref d, .ref s] ∧ Dk G d H ∧ G s = some (.lst xs) ∧ 1 ≤ xs.length ∧ xs.length ≤ 1000 ∧ ∀ (i : Nat) (v : V) (H' : Hp), xs[i]? = some v → Dk G d H' → Q v H'
theorem ok_pick (T : Txt K mg) : FnOk P w K mg base CX0 3 T.f_l_pick T.d_l_pick ["deck", "some"] sp_pick := by
  have F_l_draw := ok_draw (P := P) (w := w) (base := base) T
  refine T.U_l_pick.ok sc_l_pick (fun vs H Q E h => ?_) (fun cdv A outer s H vs Q E hr h => ?_)
  · obtain ⟨_, _, _, _, rfl, _⟩ := h
    rfl
  · obtain ⟨G, d, s, xs, rfl, k, hs, h1, h2, q⟩ := h
    refine ⟨_, (pss_one (ps_ret (pe_ix ix_list (pv 1) (pe_call F_l_draw (hr.mono (by decide)) (by rfl) T.g_l_draw T.k_l_draw T.b_l_draw .nil pass0 (pa_cons (pv 0) (pa_cons (pe_callB call_len_seq (by rfl) T.n_len PySem.boot_len (pa_cons (pv 1) pa_nil)) pa_nil))) (fun _ _ => rfl)))), ?_⟩
    refine ⟨_, rfl, _, rfl, _, rfl, s, xs, rfl, .inl (SqL.of (k.get hs)), G, d, _, rfl, by omega, by omega, k, fun r H' r0 r1 k' => ?_⟩
    obtain ⟨i, rfl⟩ : ∃ i : Nat, r = (i : Int) := ⟨r.toNat, by omega⟩
    have hi : i < xs.length := by omega
    refine ⟨s, xs, _, _, rfl, rfl, SqL.of (k'.get hs), atI_nat (List.getElem?_eq_getElem hi), ?_⟩
    exact q i _ H' (List.getElem?_eq_getElem hi) k'


/-! drawn beside tables -/
def sp_drawT (T : List (Addr × Str)) : Sp := fun vs H Q _ => ∃ (G : Hp) (d : Addr) (m : Int), vs = [.ref d, .int m] ∧ 1 ≤ m ∧ m ≤ 10000000000000000000000 ∧ DkT T G d H ∧ ∀ (r : Int) (H' : Hp), 0 ≤ r → r < m → DkT T G d H' → Q (.int r) H'
theorem drawT {T : List (Addr × Str)} : ∀ vs H Q E, sp_drawT T vs H Q E → sp_draw vs H Q E := fun _ _ _ _ ⟨G, d, m, e, h1, h2, k, q⟩ => by
  obtain ⟨Gf, kf, _, back, _⟩ := k.full
  exact ⟨Gf, d, m, e, h1, h2, kf, fun r H' r0 r1 k' => q r H' r0 r1 (back k')⟩
def sp_pickT (T : List (Addr × Str)) : Sp := fun vs H Q _ => ∃ (G : Hp) (d t : Addr) (xs : List V), vs = [.ref d, .ref t] ∧ DkT T G d H ∧ G t = some (.lst xs) ∧ 1 ≤ xs.length ∧ xs.length ≤ 1000 ∧ ∀ (i : Nat) (v : V) (H' : Hp), xs[i]? = some v → DkT T G d H' → Q v H'
theorem pickT {T : List (Addr × Str)} : ∀ vs H Q E, sp_pickT T vs H Q E → sp_pick vs H Q E := fun _ _ _ _ ⟨G, d, t, xs, e, k, ht, h1, h2, q⟩ => by
  obtain ⟨Gf, kf, _, back, old⟩ := k.full
  exact ⟨Gf, d, t, xs, e, kf, old _ _ ht, h1, h2, fun i v H' hv k' => q i v H' hv (back k')⟩

end
end K88

set_option exponentiation.threshold 3000
namespace K88
open PySem PySem.Spec PyProof.Rows L2 Hr HrM Evl HrE_thing LamX RZ
section
variable {T : List (Addr × Str)} {d : Addr} {G H : Hp} {σ : L2.St} {R : Hp → V → Prop}
theorem evd_pickI {k i : Nat} {tl : TE} {E1 : XK} (h0 : σ[i]? = some (some (.ref d))) (h : EvD T d tl σ G H (LstV R k)) (h1 : 1 ≤ k) (h2 : k ≤ 1000) : EvD T d (tCall (sp_pickT T) [] E1 (tCons (tVar i) (tCons tl tNil))) σ G H R := fun Q q =>
  ⟨_, h0, h _ fun v G1 H1 e1 D1 ⟨p, vs, ev, hp, hl, ho⟩ => by
    subst ev
    exact ⟨G1, d, p, vs, rfl, D1, hp, by omega, by omega, fun i v H' hv D' => q v G1 H' e1 D' (ho v (List.mem_of_getElem? hv))⟩⟩
/-- a natural number in bounds -/
def NatV (lo hi : Nat) : Hp → V → Prop := fun _ v => ∃ x : Nat, v = .int (x : Int) ∧ lo ≤ x ∧ x ≤ hi
theorem nat_more (lo hi : Nat) (G G' : Hp) (v : V) (h : NatV lo hi G v) (e : Ex G G') : NatV lo hi G' v := h
theorem evd_nat {x : Int} {lo hi : Nat} (D : DkT T G d H) (h : ∃ n : Nat, x = (n : Int) ∧ lo ≤ n ∧ n ≤ hi) : EvD T d (tC (.int x)) σ G H (NatV lo hi) := evd_c D (let ⟨n, a, b, c⟩ := h; ⟨n, congrArg V.int a, b, c⟩)
theorem evd_draw {m i : Nat} {E1 : XK} (h1 : σ[i]? = some (some (.ref d))) (D : DkT T G d H) (hm : 1 ≤ m) (hm2 : m ≤ 10000000000000000000000) : EvD T d (tCall (sp_drawT T) [] E1 (tCons (tVar i) (tCons (tC (.int (m : Int))) tNil))) σ G H (NatV 0 (m - 1)) := fun Q q =>
  ⟨_, h1, G, d, _, rfl, by omega, by omega, D, fun r H' r0 r1 D' => q _ G H' (Ex.refl _) D' ⟨r.toNat, by rw [Int.toNat_of_nonneg r0], by omega, by omega⟩⟩
theorem evd_drawP {a b m i : Nat} {E1 : XK} (h1 : σ[i]? = some (some (.ref d))) (D : DkT T G d H) (hc : CPow (a : Int) (b : Int)) (e : ((a : Int) ^ ((b : Int)).toNat) = (m : Int)) (hm : 1 ≤ m) (hm2 : m ≤ 10000000000000000000000) : EvD T d (tCall (sp_drawT T) [] E1 (tCons (tVar i) (tCons (tOp (rI CPow fun i j => V.int (i ^ j.toNat)) (tC (.int (a : Int))) (tC (.int (b : Int)))) tNil))) σ G H (NatV 0 (m - 1)) := fun Q q =>
  ⟨_, h1, _, _, rfl, rfl, hc, G, d, (m : Int), by show ([V.ref d, V.int ((a : Int) ^ ((b : Int)).toNat)] : List V) = _; rw [e], by omega, by omega, D, fun r H' r0 r1 D' => q _ G H' (Ex.refl _) D' ⟨r.toNat, by rw [Int.toNat_of_nonneg r0], by omega, by omega⟩⟩
theorem evd_add {t1 t2 : TE} {a b c e lo hi : Nat} (h1 : EvD T d t1 σ G H (NatV a b)) (h2 : ∀ G1 H1, Ex G G1 → DkT T G1 d H1 → EvD T d t2 σ G1 H1 (NatV c e)) (h3 : lo ≤ a + c) (h4 : b + e ≤ hi) : EvD T d (tOp (rI0 fun i j => V.int (i + j)) t1 t2) σ G H (NatV lo hi) := fun Q q =>
  h1 _ fun v G1 H1 e1 D1 ⟨x, ex, x1, x2⟩ => h2 G1 H1 e1 D1 _ fun u G2 H2 e2 D2 ⟨y, ey, y1, y2⟩ => by
    subst ex ey
    refine ⟨_, _, rfl, rfl, q _ G2 H2 (e1.trans e2) D2 ⟨x + y, ?_, by omega, by omega⟩⟩
    rw [Int.natCast_add]
theorem _root_.Hr.DkT.setL {f : Addr} {xs ys : List V} (k : DkT T G d H) (h : G f = some (.lst xs)) : DkT T (upd G f (.lst ys)) d (upd H f (.lst ys)) := by
  have hH := k.get h
  refine ⟨k.k.set h, k.n.upd (by intro _ z; cases z), fun q hq => ?_⟩
  obtain ⟨ps, h1, h2, h3⟩ := k.t q hq
  refine ⟨ps, ?_, h2, fun pos cv hc => ?_⟩
  · rw [upd_ne (fun z => by rw [z, hH] at h1; cases h1)]
    exact h1
  · obtain ⟨c, e1, e2⟩ := h3 pos cv hc
    refine ⟨c, e1, ?_⟩
    rw [upd_ne (fun z => by rw [z, hH] at e2; unfold CodeO at e2; cases e2)]
    exact e2
end
def big : Nat := 10000000000000000000000
/-- a drawn row -/
structure RowOk (wd : Wd) (ns : List Nat) : Prop where
  l1 : 1 ≤ ns.length
  l2 : wd = .products → 2 ≤ ns.length
  small : ∀ x ∈ ns, x ≤ big
  one : wd = .products → ns[0]? = some 1
theorem last_at {ns : List Nat} (h : 1 ≤ ns.length) : ∃ x ∈ ns, atI (tz ns) (-1) = some (.int (x : Int)) := by
  have hne : ns ≠ [] := fun z => by rw [z] at h; exact absurd h (by decide)
  have e := List.dropLast_concat_getLast hne
  refine ⟨ns.getLast hne, List.getLast_mem hne, ?_⟩
  have h2 := atI_last (tz ns.dropLast) (.int ((ns.getLast hne : Nat) : Int))
  rw [← tz_snoc, e] at h2
  exact h2
theorem RowOk.snoc {wd : Wd} {ns : List Nat} (r : RowOk wd ns) {x : Nat} (hx : x ≤ big) : RowOk wd (ns ++ [x]) := by
  refine ⟨by rw [List.length_append]; have := r.l1; omega, fun h => by rw [List.length_append]; have := r.l2 h; omega, fun y hy => ?_, fun h => ?_⟩
  · rcases List.mem_append.mp hy with hy | hy
    · exact r.small y hy
    · rw [List.mem_singleton.mp hy]
      exact hx
  · rw [List.getElem?_append_left (by have := r.l1; omega)]
    exact r.one h
theorem row_s {x : Nat} (h : x ≤ big) : RowOk .sets [x] := by
  refine ⟨Nat.le_refl 1, fun z => ?_, fun y hy => ?_, fun z => ?_⟩
  · cases z
  · rw [List.mem_singleton.mp hy]
    exact h
  · cases z
theorem row_p {x : Nat} (h : x ≤ big) : RowOk .products [1, x] := by
  refine ⟨Nat.le_succ 1, fun _ => Nat.le_refl 2, fun y hy => ?_, fun _ => rfl⟩
  rcases List.mem_cons.mp hy with rfl | hy
  · decide
  · rw [List.mem_singleton.mp hy]
    exact h
theorem half_eq {t : Nat} {ti : Int} (h : ti = (t : Int)) : V.int (ti.fdiv 2) = V.int ((t / 2 : Nat) : Int) := by
  rw [h, Int.fdiv_eq_ediv_of_nonneg _ (by decide)]
  rfl
theorem big_100 {n : Nat} (h : n ≤ big) : n < 2 ^ 100 := Nat.lt_of_le_of_lt h (by decide)
section
variable {P : Program} {w : World} {K : PySem.W.Frag} {mg : Str → Option Value} {base : Heap}
def sp_lrow (TL : List (Addr × Str)) : Sp := fun vs H Q _ => ∃ (G : Hp) (d : Addr) (wd : Wd), vs = [.ref d, .str wd.s] ∧ isSP wd ∧ DkT TL G d H ∧
  ∀ p ns G' H', Ex G G' → DkT TL G' d H' → G' p = some (.tup (tz ns)) → RowOk wd ns → ns.length ≤ 7 → Q (.ref p) H'
theorem ok_l_row (T : Txt K mg) : FnOk P w K mg base CX0 6 T.f_l_row T.d_l_row ["deck", "word"] (sp_lrow (tabs T)) := by
  have F_l_draw := (ok_draw (P := P) (w := w) (base := base) T).imp (drawT (T := tabs T))
  have F_l_pick := (ok_pick (P := P) (w := w) (base := base) T).imp (pickT (T := tabs T))
  have F_l_upper_sets := ok_l_upper_sets (P := P) (w := w) (base := base) T
  have F_l_upper_products := ok_l_upper_products (P := P) (w := w) (base := base) T
  refine T.U_l_row.ok sc_l_row (fun vs H Q E h => ?_) (fun cdv A outer s H vs Q E hr h => ?_)
  · obtain ⟨_, _, _, rfl, _⟩ := h
    rfl
  · obtain ⟨G, d, wd, rfl, hw, D, q⟩ := h
    refine ⟨_, (pss_cons (ps_par rfl sc_l_row.nd (i := 2) (j := 3) rfl rfl (by decide) rfl rfl (pa_cons (pe_call F_l_pick (hr.mono (by decide)) (by rfl) T.g_l_pick T.k_l_pick T.b_l_pick .nil pass0 (pa_cons (pv 0) (pa_cons (pe_lst (pa_cons pe_int (pa_cons pe_int (pa_cons pe_int (pa_cons pe_int (pa_cons pe_int (pa_cons pe_int pa_nil))))))) pa_nil))) (pa_cons (pe_cmpR op_eq (pe_call F_l_draw (hr.mono (by decide)) (by rfl) T.g_l_draw T.k_l_draw T.b_l_draw .nil pass0 (pa_cons (pv 0) (pa_cons pe_int pa_nil))) pe_int (nomark _)) pa_nil)) (by rfl))
  (pss_cons (ps_set (i := 4) sc_l_row.nd rfl (.inl rfl) (pe_call F_l_pick (hr.mono (by decide)) (by rfl) T.g_l_pick T.k_l_pick T.b_l_pick .nil pass0 (pa_cons (pv 0) (pa_cons (pe_lst (pa_cons (pe_op op_add (pe_call F_l_draw (hr.mono (by decide)) (by rfl) T.g_l_draw T.k_l_draw T.b_l_draw .nil pass0 (pa_cons (pv 0) (pa_cons pe_int pa_nil))) pe_int) (pa_cons pe_int (pa_cons (pe_ifExp (pt_val (pv 3)) (pe_op op_add (pe_call F_l_draw (hr.mono (by decide)) (by rfl) T.g_l_draw T.k_l_draw T.b_l_draw .nil pass0 (pa_cons (pv 0) (pa_cons (pe_op op_pow pe_int pe_int) pa_nil))) pe_int) pe_int) pa_nil)))) pa_nil))))
  (pss_cut (ps_set (i := 5) sc_l_row.nd rfl (.inl rfl) (pe_ifExp (pt_cmpR op_eq (pv 1) pe_str (nomark _)) (pe_lst (pa_cons (pv 4) pa_nil)) (pe_lst (pa_cons pe_int (pa_cons (pv 4) pa_nil)))))
  (pss_cons (ps_for PassesOwn.never rfl (pi_range1 rfl T.n_range (pa_cons (pe_op op_sub (pv 2) pe_int) pa_nil)) (pg_name (i := 6) sc_l_row.nd rfl (.inl rfl)) (pss_cut (ps_set (i := 7) sc_l_row.nd rfl (.inl rfl) (pe_ifExp (pt_cmpR op_eq (pv 1) pe_str (nomark _)) (pe_callB call_len_seq (by rfl) T.n_len PySem.boot_len (pa_cons (pv 5) pa_nil)) (pe_op op_sub (pe_callB call_len_seq (by rfl) T.n_len PySem.boot_len (pa_cons (pv 5) pa_nil)) pe_int)))
  (pss_cut (ps_set (i := 8) sc_l_row.nd rfl (.inl rfl) (pe_ifExp (pt_cmpR op_eq (pv 1) pe_str (nomark _)) (pe_call F_l_upper_sets (hr.mono (by decide)) (by rfl) T.g_l_upper_sets T.k_l_upper_sets T.b_l_upper_sets .nil pass0 (pa_cons (pe_ix ix_list (pv 5) (pe_un un_neg pe_int) (fun _ _ => rfl)) (pa_cons (pv 7) pa_nil))) (pe_call F_l_upper_products (hr.mono (by decide)) (by rfl) T.g_l_upper_products T.k_l_upper_products T.b_l_upper_products .nil pass0 (pa_cons (pe_ix ix_list (pv 5) (pe_un un_neg pe_int) (fun _ _ => rfl)) (pa_cons (pv 7) pa_nil)))))
  (pss_one (ps_if (pt_cmpR op_lt (pv 8) (pe_op op_pow pe_int pe_int) (nomark _)) (pss_cut (ps_set (i := 9) sc_l_row.nd rfl (.inl rfl) (pe_ifExp (pt_cmpR op_eq (pe_call F_l_draw (hr.mono (by decide)) (by rfl) T.g_l_draw T.k_l_draw T.b_l_draw .nil pass0 (pa_cons (pv 0) (pa_cons pe_int pa_nil))) pe_int (nomark _)) (pe_op op_add (pv 8) pe_int) pe_int))
  (pss_one (ps_expr (pe_bm PySem.F.plainAttrs_list PySem.F.slot_list_append PySem.F.type_list_append mt_append (pv 5) (pa_cons (pe_call F_l_pick (hr.mono (by decide)) (by rfl) T.g_l_pick T.k_l_pick T.b_l_pick .nil pass0 (pa_cons (pv 0) (pa_cons (pe_lst (pa_cons (pv 8) (pa_cons (pv 8) (pa_cons (pe_call F_l_draw (hr.mono (by decide)) (by rfl) T.g_l_draw T.k_l_draw T.b_l_draw .nil pass0 (pa_cons (pv 0) (pa_cons (pe_op op_add (pv 8) pe_int) pa_nil))) (pa_cons pe_int (pa_cons (pe_op op_fdivN (pv 8) pe_int) (pa_cons (pv 9) pa_nil))))))) pa_nil))) pa_nil))))) pss_nil)))))
  (pss_one (ps_ret (pe_callTy call_tuple_of (by rfl) T.n_tuple (by decide +kernel) (pa_cons (pv 5) pa_nil)))))))), ?_⟩
    refine evd_pickI (T := tabs T) (G := G) (d := d) (R := NatV 1 6) (k := 6) rfl (evd_lst (nat_more _ _)
      (evds_cons (nat_more _ _) (evd_nat D ⟨3, rfl, by decide, by decide⟩) fun G1 H1 _ D1 =>
      evds_cons (nat_more _ _) (evd_nat D1 ⟨2, rfl, by decide, by decide⟩) fun G1 H1 _ D1 =>
      evds_cons (nat_more _ _) (evd_nat D1 ⟨4, rfl, by decide, by decide⟩) fun G1 H1 _ D1 =>
      evds_cons (nat_more _ _) (evd_nat D1 ⟨5, rfl, by decide, by decide⟩) fun G1 H1 _ D1 =>
      evds_cons (nat_more _ _) (evd_nat D1 ⟨1, rfl, by decide, by decide⟩) fun G1 H1 _ D1 =>
      evds_cons (nat_more _ _) (evd_nat D1 ⟨6, rfl, by decide, by decide⟩) fun G1 H1 _ D1 =>
      evds_nil D1) (by decide)) (by decide) (by decide) _ fun v1 G1 H1 e1 D1 ⟨many, em, m1, m6⟩ => ?_
    subst em
    refine evd_draw (T := tabs T) (G := G1) (d := d) (m := 3) (i := 0) rfl D1 (by decide) (by decide) _ fun v2 G2 H2 e2 D2 ⟨z, ez, _, _⟩ => ?_
    subst ez
    refine ⟨rfl, _, _, rfl, ?_⟩
    generalize decide (V.int ((z : Nat) : Int) = V.int 0) = g
    refine evd_pickI (T := tabs T) (G := G2) (d := d) (R := NatV 0 1000001) (k := 3) rfl (evd_lst (nat_more _ _)
      (evds_cons (nat_more _ _) (evd_add (a := 0) (b := 8) (c := 1) (e := 1) (evd_draw (m := 9) (i := 0) rfl D2 (by decide) (by decide)) (fun G1 H1 _ D1 => evd_nat D1 ⟨1, rfl, by decide, by decide⟩) (by decide) (by decide)) fun G1 H1 _ D1 =>
      evds_cons (nat_more _ _) (evd_nat D1 ⟨5, rfl, by decide, by decide⟩) fun G1 H1 _ D1 =>
      evds_cons (nat_more _ _) (fun Q q => ⟨_, rfl, g, rfl, by
        cases g with
        | true => exact iteT (evd_add (lo := 0) (hi := 1000001) (a := 0) (b := 999999) (c := 1) (e := 1) (evd_drawP (a := 10) (b := 6) (m := 1000000) (i := 0) rfl D1 ⟨by decide, by decide, by decide⟩ (by decide +kernel) (by decide) (by decide)) (fun G1 H1 _ D1 => evd_nat D1 ⟨1, rfl, by decide, by decide⟩) (by decide) (by decide) Q q)
        | false => exact iteF (evd_nat D1 ⟨3, rfl, by decide, by decide⟩ Q q)⟩) fun G1 H1 _ D1 =>
      evds_nil D1) (by decide)) (by decide) (by decide) _ fun v3 G3 H3 e3 D3 ⟨first, ef, f0, f1⟩ => ?_
    subst ef
    have fb : first ≤ big := Nat.le_trans f1 (by decide)
    dsimp only [gName]
    have e03 : Ex G G3 := (e1.trans e2).trans e3
    -- row = ..
    refine ⟨fun σ' H' => ∃ (R : Addr) (ns : List Nat) (G4 : Hp), σ' = [some (.ref d), some (.str wd.s), some (.int (many : Int)), some (.bl g), some (.int (first : Int)), some (.ref R), none, none, none, none] ∧ Ex G G4 ∧ G R = none ∧ DkT (tabs T) G4 d H' ∧ G4 R = some (.lst (tz ns)) ∧ RowOk wd ns ∧ ns.length ≤ 2, ?_, ?_⟩
    · rcases hw with rfl | rfl
      · refine ⟨_, rfl, rfl, _, rfl, ite_yes (by decide +kernel) ?_⟩
        refine ⟨_, rfl, small1, fun R nR => ⟨R, [first], _, rfl, e03.trans (D3.gex nR), fresh_back e03 (D3.free nR), D3.made nR, upd_same, row_s fb, by show 1 ≤ 2; decide⟩⟩
      · refine ⟨_, rfl, rfl, _, rfl, ite_no (by decide +kernel) ?_⟩
        refine ⟨_, rfl, small2, fun R nR => ⟨R, [1, first], _, rfl, e03.trans (D3.gex nR), fresh_back e03 (D3.free nR), D3.made nR, upd_same, row_p fb, by show 2 ≤ 2; decide⟩⟩
    rintro σ' H4 ⟨R, ns0, G4, rfl, e4, nR, D4, hR, ok0, hl0⟩
    refine ⟨_, rfl, _, _, rfl, rfl, _, rfl, by omega, by omega, ?_⟩
    rw [show ((many : Int) - 1).toNat = many - 1 by omega]
    refine for_range (lo := 0) (n := many - 1) (fun i σ' H' => ∃ (ns : List Nat) (y6 y7 y8 y9 : Option V) (G5 : Hp), i ≤ many - 1 ∧ σ' = [some (.ref d), some (.str wd.s), some (.int (many : Int)), some (.bl g), some (.int (first : Int)), some (.ref R), y6, y7, y8, y9] ∧ Ex G G5 ∧ DkT (tabs T) G5 d H' ∧ G5 R = some (.lst (tz ns)) ∧ RowOk wd ns ∧ ns.length ≤ 2 + i)
      ⟨ns0, none, none, none, none, G4, Nat.zero_le _, rfl, e4, D4, hR, ok0, hl0⟩ ?_ ?_
    · rintro i σ' H5 hi ⟨ns, y6, y7, y8, y9, G5, _, rfl, e5, D5, hR5, ok5, hl5⟩
      have hR5h := D5.get hR5
      have hl1 := ok5.l1
      obtain ⟨x, hx, hlast⟩ := last_at hl1
      have hxb := ok5.small x hx
      -- size
      refine ⟨fun σ' H' => ∃ s : Nat, 1 ≤ s ∧ s ≤ 17 ∧ σ' = [some (.ref d), some (.str wd.s), some (.int (many : Int)), some (.bl g), some (.int (first : Int)), some (.ref R), some (.int (0 + (i : Int))), some (.int (s : Int)), y8, y9] ∧ H' = H5, ?_, ?_⟩
      · rcases hw with rfl | rfl
        · refine ⟨_, rfl, rfl, _, rfl, ite_yes (by decide +kernel) ⟨_, rfl, R, _, rfl, .inl (SqL.of hR5h), ns.length, hl1, by omega, ?_, rfl⟩⟩
          rw [tz_len]
          rfl
        · refine ⟨_, rfl, rfl, _, rfl, ite_no (by decide +kernel) ⟨_, rfl, R, _, rfl, .inl (SqL.of hR5h), _, _, rfl, rfl, ns.length - 1, by have := ok5.l2 rfl; omega, by omega, ?_, rfl⟩⟩
          rw [tz_len, show (((ns.length - 1 : Nat)) : Int) = (ns.length : Int) - 1 by omega]
          rfl
      rintro σ' H6 ⟨s, s1, s17, rfl, rfl⟩
      -- top
      refine ⟨fun σ' H' => ∃ t : Nat, σ' = [some (.ref d), some (.str wd.s), some (.int (many : Int)), some (.bl g), some (.int (first : Int)), some (.ref R), some (.int (0 + (i : Int))), some (.int (s : Int)), some (.int (t : Int)), y9] ∧ Ex H6 H', ?_, ?_⟩
      · rcases hw with rfl | rfl
        · refine ⟨_, rfl, rfl, _, rfl, ite_yes (by decide +kernel) ?_⟩
          exact ⟨_, rfl, _, rfl, R, _, (-1), _, rfl, rfl, SqL.of hR5h, hlast, _, rfl, _, _, x, s, rfl, rfl, rfl, big_100 hxb, s1, s17, fun H7 e7 => ⟨_, rfl, e7⟩⟩
        · refine ⟨_, rfl, rfl, _, rfl, ite_no (by decide +kernel) ?_⟩
          exact ⟨_, rfl, _, rfl, R, _, (-1), _, rfl, rfl, SqL.of hR5h, hlast, _, rfl, _, _, x, s, rfl, rfl, rfl, big_100 hxb, s1, s17, fun H7 e7 => ⟨_, rfl, e7⟩⟩
      rintro σ' H7 ⟨t, rfl, e7⟩
      have D7 := D5.more e7
      generalize hti : ((t : Nat) : Int) = ti
      refine ⟨_, rfl, _, _, rfl, rfl, ⟨by decide, by decide, by decide⟩, _, _, rfl, rfl, _, rfl, ite2 (fun e => ?_) (fun e => ?_)⟩
      · have ht : t + 1 ≤ big := by
          have h1 := of_decide_eq_true e
          have h2 : ((10 : Int) ^ (22 : Int).toNat) = (big : Int) := by decide +kernel
          have h3 : ti < (10 : Int) ^ (22 : Int).toNat := h1
          rw [h2] at h3
          omega
        have hb22 : big = 10000000000000000000000 := rfl
        -- more
        refine ⟨fun σ' H' => ∃ (m : Nat) (G8 : Hp), m ≤ big ∧ σ' = [some (.ref d), some (.str wd.s), some (.int (many : Int)), some (.bl g), some (.int (first : Int)), some (.ref R), some (.int (0 + (i : Int))), some (.int (s : Int)), some (.int ti), some (.int (m : Int))] ∧ Ex G5 G8 ∧ DkT (tabs T) G8 d H', ?_, ?_⟩
        · refine evd_draw (T := tabs T) (G := G5) (d := d) (m := 5) (i := 0) rfl D7 (by decide) (by decide) _ fun v8 G8 H8 e8 D8 ⟨z8, ez8, _, _⟩ => ?_
          subst ez8
          refine ⟨rfl, _, rfl, ite2 (fun _ => ?_) (fun _ => ?_)⟩
          · exact ⟨_, rfl, _, _, rfl, rfl, t + 1, G8, ht, by rw [← hti]; rfl, e8, D8⟩
          · exact ⟨0, G8, Nat.zero_le _, rfl, e8, D8⟩
        rintro σ' H8 ⟨m, G8, hm, rfl, e8, D8⟩
        refine ⟨_, rfl, .inl ⟨rfl, _, SqL.of (D8.get (e8 _ _ hR5))⟩, ?_⟩
        refine evd_pickI (T := tabs T) (G := G8) (d := d) (R := NatV 0 big) (k := 6) rfl (evd_lst (nat_more _ _)
          (evds_cons (nat_more _ _) (evd_var D8 rfl ⟨t, congrArg V.int hti.symm, Nat.zero_le _, by omega⟩) fun G1 H1 _ D1 =>
          evds_cons (nat_more _ _) (evd_var D1 rfl ⟨t, congrArg V.int hti.symm, Nat.zero_le _, by omega⟩) fun G1 H1 _ D1 =>
          evds_cons (nat_more _ _) (fun Q q => ⟨_, rfl, _, rfl, _, _, rfl, rfl, G1, d, _, rfl, by omega, by omega, D1, fun r H' r0 r1 D' => q _ G1 H' (Ex.refl _) D' ⟨r.toNat, by rw [Int.toNat_of_nonneg r0], Nat.zero_le _, by omega⟩⟩) fun G1 H1 _ D1 =>
          evds_cons (nat_more _ _) (evd_nat D1 ⟨1, rfl, by decide, by decide⟩) fun G1 H1 _ D1 =>
          evds_cons (nat_more _ _) (fun Q q => ⟨_, rfl, _, _, rfl, rfl, ⟨by decide, by decide⟩, q _ G1 H1 (Ex.refl _) D1 ⟨t / 2, half_eq hti.symm, Nat.zero_le _, by omega⟩⟩) fun G1 H1 _ D1 =>
          evds_cons (nat_more _ _) (evd_var D1 rfl ⟨m, rfl, Nat.zero_le _, hm⟩) fun G1 H1 _ D1 =>
          evds_nil D1) (by decide)) (by decide) (by decide) _ fun v9 G9 H9 e9 D9 ⟨x9, ex9, _, hx9⟩ => ?_
        subst ex9
        have hR9 := e9 _ _ (e8 _ _ hR5)
        refine ⟨R, _, _, rfl, rfl, D9.get hR9, ?_, ?_⟩
        · rw [tz_len]
          exact small1000 (by omega)
        · refine ⟨ns ++ [x9], _, _, _, _, _, by omega, rfl, Ex.mut (e5.trans (e8.trans e9)) nR, D9.setL (ys := tz ns ++ [.int (x9 : Int)]) hR9, by rw [upd_same, tz_snoc], ok5.snoc hx9, by rw [List.length_append, List.length_singleton]; omega⟩
      · exact ⟨ns, _, _, _, _, G5, by omega, rfl, e5, D7, hR5, ok5, by omega⟩
    · rintro σ' H5 ⟨ns, y6, y7, y8, y9, G5, _, rfl, e5, D5, hR5, ok5, hl5⟩
      refine ⟨_, rfl, R, _, rfl, .inl ⟨SqL.of (D5.get hR5), fun p np => ?_⟩⟩
      exact q p ns _ _ (e5.trans (D5.gex np)) (D5.made np) upd_same ok5 (by omega)
end
end K88

set_option exponentiation.threshold 3000
namespace K88
open PySem PySem.Spec PyProof.Rows L2 Hr HrM Evl HrE_thing LamX RZ
/-- the pair at k, k - 1, apart from the gap -/
def PairOk (wd : Wd) (ns : List Nat) (k : Nat) : Prop := match wd with
  | .sets => 1 ≤ ns.getD k 0 ∧ Lf 0 (k + 1) (ns.getD k 0) ≤ ns.getD (k - 1) 0
  | _ => 1 < k → ns.getD k 0 ≤ Uf 1 (k - 1) (ns.getD (k - 1) 0)
def Others (wd : Wd) (ns : List Nat) (i : Nat) : Prop :=
  (∀ k, 1 ≤ k → k < ns.length → k ≠ i → k - 1 ≠ i → PairOk wd ns k) ∧ (wd = .sets → ∀ j, j < ns.length → j ≠ i → 1 ≤ ns.getD j 0)
theorem set_eq {ns : List Nat} {i x : Nat} (h : i < ns.length) : (ns.set i x).getD i 0 = x := by
  rw [List.getD_eq_getElem?_getD, List.getElem?_set_self h]
  rfl
theorem set_ne {ns : List Nat} {i j x : Nat} (h : j ≠ i) : (ns.set i x).getD j 0 = ns.getD j 0 := by
  rw [List.getD_eq_getElem?_getD, List.getElem?_set_ne (Ne.symm h), ← List.getD_eq_getElem?_getD]
theorem Uf_zero {δ s : Nat} (h : 1 ≤ s) : Uf δ s 0 = 0 := by
  have e0 := cc_eq (s := s) (n := 0) (xs := []) h (Cas.nil s) rfl
  unfold Uf
  rw [← e0]
  rfl
theorem Lf_pos {δ s m : Nat} (hδ : δ ≤ 1) (hs : 1 ≤ s) (h : 1 ≤ m) : 1 ≤ Lf δ (s + 1) m := by
  by_cases z : Lf δ (s + 1) m ≤ 0
  · have := (Gal hδ hs).mp z
    rw [Uf_zero hs] at this
    omega
  · omega
theorem all_iff {ns : List Nat} {i x : Nat} (hi : i < ns.length) : (ns.set i x).all (fun x => decide (1 ≤ x)) = true ↔ 1 ≤ x ∧ ∀ j, j < ns.length → j ≠ i → 1 ≤ ns.getD j 0 := by
  rw [List.all_eq_true]
  have hl : (ns.set i x).length = ns.length := List.length_set
  constructor
  · intro h
    have at_ : ∀ j, j < ns.length → 1 ≤ (ns.set i x).getD j 0 := fun j hj => by
      have e : (ns.set i x).getD j 0 = (ns.set i x)[j]'(by omega) := by rw [List.getD_eq_getElem?_getD, List.getElem?_eq_getElem (by omega)]; rfl
      rw [e]
      exact of_decide_eq_true (h _ (List.getElem_mem _))
    refine ⟨?_, fun j hj hne => ?_⟩
    · have := at_ i hi
      rw [set_eq hi] at this
      exact this
    · have := at_ j hj
      rw [set_ne hne] at this
      exact this
  · rintro ⟨h1, h2⟩ y hy
    obtain ⟨j, hj, e⟩ := List.mem_iff_getElem.mp hy
    have e2 : (ns.set i x).getD j 0 = y := by rw [List.getD_eq_getElem?_getD, List.getElem?_eq_getElem hj, e]; rfl
    refine decide_eq_true ?_
    rw [← e2]
    by_cases z : j = i
    · rw [z, set_eq hi]
      exact h1
    · rw [set_ne z]
      exact h2 j (by omega) z
theorem any_iff {n : Nat} {f : Nat → Bool} : (!anyN n f) = true ↔ ∀ j, j < n → f j = false := by
  rw [← anyN_iff]
  cases anyN n f <;> simp
theorem fit_iff {wd : Wd} {ns : List Nat} {i x : Nat} (hw : isSP wd) (hi : i < ns.length) (hp : wd = .products → 1 ≤ i) :
    fitB wd (ns.set i x) = true ↔ Others wd ns i ∧ loW wd ns i ≤ x ∧ ∀ h, hiW wd ns i = some h → x ≤ h := by
  have hl : (ns.set i x).length = ns.length := List.length_set
  rcases hw with rfl | rfl
  · show (((ns.set i x).all fun x => decide (1 ≤ x)) && !anyN ((ns.set i x).length - 1) (badS (ns.set i x))) = true ↔ _
    rw [Bool.and_eq_true, all_iff hi, any_iff, hl]
    have bs : ∀ j, badS (ns.set i x) j = false ↔ Lf 0 (j + 2) ((ns.set i x).getD (j + 1) 0) ≤ (ns.set i x).getD j 0 := fun j => by
      unfold badS
      rw [decide_eq_false_iff_not]
      omega
    show _ ↔ Others .sets ns i ∧ loS ns i ≤ x ∧ ∀ h, hiS ns i = some h → x ≤ h
    constructor
    · rintro ⟨⟨h1, h2⟩, h3⟩
      refine ⟨⟨fun k k1 kl ki ki1 => ⟨h2 k kl ki, ?_⟩, fun _ => h2⟩, ?_, fun h hh => ?_⟩
      · have := (bs (k - 1)).mp (h3 (k - 1) (by omega))
        rw [show k - 1 + 1 = k by omega, show k - 1 + 2 = k + 1 by omega, set_ne ki, set_ne ki1] at this
        exact this
      · unfold loS
        split
        · have := (bs i).mp (h3 i (by omega))
          rw [set_eq hi, set_ne (by omega)] at this
          exact this
        · exact h1
      · unfold hiS at hh
        split at hh
        · cases hh
          have := (bs (i - 1)).mp (h3 (i - 1) (by omega))
          rw [show i - 1 + 1 = i by omega, show i - 1 + 2 = i + 1 by omega, set_eq hi, set_ne (by omega)] at this
          exact (Gal (by decide) (by omega)).mp this
        · cases hh
    · rintro ⟨⟨h1, h2⟩, h3, h4⟩
      refine ⟨⟨?_, h2 rfl⟩, fun j hj => (bs j).mpr ?_⟩
      · unfold loS at h3
        split at h3
        · have := Lf_pos (δ := 0) (s := i + 1) (m := ns.getD (i + 1) 0) (by decide) (by omega) (h2 rfl (i + 1) (by omega) (by omega))
          exact Nat.le_trans this h3
        · exact h3
      · by_cases z : j = i
        · subst z
          rw [set_eq hi, set_ne (by omega)]
          unfold loS at h3
          rw [if_pos (by omega)] at h3
          exact h3
        · by_cases z2 : j + 1 = i
          · rw [z2, set_eq hi, set_ne z]
            have := h4 (Uf 0 i (ns.getD (i - 1) 0)) (by unfold hiS; rw [if_pos (by omega)])
            rw [show j = i - 1 by omega, show i - 1 + 2 = i + 1 by omega]
            exact (Gal (by decide) (by omega)).mpr this
          · rw [set_ne z, set_ne z2]
            have := (h1 (j + 1) (by omega) (by omega) z2 (by omega)).2
            exact this
  · have i1 := hp rfl
    show (!anyN ((ns.set i x).length - 2) (badP (ns.set i x))) = true ↔ _
    rw [any_iff, hl]
    have bs : ∀ j, badP (ns.set i x) j = false ↔ (ns.set i x).getD (j + 2) 0 ≤ Uf 1 (j + 1) ((ns.set i x).getD (j + 1) 0) := fun j => by
      unfold badP
      rw [decide_eq_false_iff_not]
      omega
    show _ ↔ Others .products ns i ∧ loP ns i ≤ x ∧ ∀ h, hiP ns i = some h → x ≤ h
    constructor
    · intro h3
      refine ⟨⟨fun k k1 kl ki ki1 k2 => ?_, fun z => by cases z⟩, ?_, fun h hh => ?_⟩
      · have := (bs (k - 2)).mp (h3 (k - 2) (by omega))
        rw [show k - 2 + 2 = k by omega, show k - 2 + 1 = k - 1 by omega, set_ne ki, set_ne ki1] at this
        exact this
      · unfold loP
        split
        · have := (bs (i - 1)).mp (h3 (i - 1) (by omega))
          rw [show i - 1 + 1 = i by omega, show i - 1 + 2 = i + 1 by omega, set_eq hi, set_ne (by omega)] at this
          exact (Gal (by decide) i1).mpr this
        · exact Nat.zero_le _
      · unfold hiP at hh
        split at hh
        · cases hh
          have := (bs (i - 2)).mp (h3 (i - 2) (by omega))
          rw [show i - 2 + 2 = i by omega, show i - 2 + 1 = i - 1 by omega, set_eq hi, set_ne (by omega)] at this
          exact this
        · cases hh
    · rintro ⟨⟨h1, h2⟩, h3, h4⟩ j hj
      refine (bs j).mpr ?_
      by_cases z : j + 1 = i
      · rw [z, set_eq hi, set_ne (by omega)]
        unfold loP at h3
        rw [if_pos (by omega)] at h3
        rw [show j + 2 = i + 1 by omega]
        exact (Gal (by decide) i1).mp h3
      · by_cases z2 : j + 2 = i
        · rw [z2, set_eq hi, set_ne z]
          have := h4 (Uf 1 (i - 1) (ns.getD (i - 1) 0)) (by unfold hiP; rw [if_pos (by omega)])
          rw [show j + 1 = i - 1 by omega]
          exact this
        · rw [set_ne z, set_ne z2]
          have := h1 (j + 2) (by omega) (by omega) z2 (by omega) (by omega)
          exact this
/-- whether there are answers at all -/
theorem due_iff {wd : Wd} {ns : List Nat} {i : Nat} (hw : isSP wd) (hi : i < ns.length) (hp : wd = .products → 1 ≤ i) :
    fitB wd (ns.set i (loW wd ns i)) = true ↔ Others wd ns i ∧ ∀ h, hiW wd ns i = some h → loW wd ns i ≤ h := by
  rw [fit_iff hw hi hp]
  exact ⟨fun ⟨a, _, b⟩ => ⟨a, b⟩, fun ⟨a, b⟩ => ⟨a, Nat.le_refl _, b⟩⟩
theorem no_fit {wd : Wd} {ns : List Nat} {i : Nat} (hw : isSP wd) (hi : i < ns.length) (hp : wd = .products → 1 ≤ i) (h : fitB wd (ns.set i (loW wd ns i)) = false) (x : Nat) : fitB wd (ns.set i x) = false := by
  cases hx : fitB wd (ns.set i x) with
  | false => rfl
  | true =>
    obtain ⟨a, b, c⟩ := (fit_iff hw hi hp).mp hx
    have := (due_iff hw hi hp).mpr ⟨a, fun h hh => Nat.le_trans b (c h hh)⟩
    rw [h] at this
    cases this
theorem fit_some {wd : Wd} {ns : List Nat} {i : Nat} (hw : isSP wd) (hi : i < ns.length) (hp : wd = .products → 1 ≤ i) (h : fitB wd (ns.set i (loW wd ns i)) = true) (x : Nat) : fitB wd (ns.set i x) = true ↔ loW wd ns i ≤ x ∧ ∀ h, hiW wd ns i = some h → x ≤ h := by
  have ho := ((due_iff hw hi hp).mp h).1
  rw [fit_iff hw hi hp]
  exact ⟨fun ⟨_, b⟩ => b, fun b => ⟨ho, b⟩⟩
end K88

set_option exponentiation.threshold 3000
namespace K88
open PySem PySem.Spec PyProof.Rows L2 Hr HrM Evl HrE_thing LamX RZ
theorem ne_dec {a b : Int} (h : a ≠ b) : (!decide (V.int a = V.int b)) = true := by
  rw [decide_eq_false fun z => h (by injection z)]
  rfl
theorem ne_dec0 {a b : Int} (h : a = b) : (!decide (V.int a = V.int b)) = false := by
  rw [decide_eq_true (congrArg V.int h)]
  rfl
theorem given_int (n : Nat) (f : Nat → Bool) (g : Nat → Int) : given n f (fun j => .int (g j)) = (((List.range n).filter f).map g).map V.int := by
  unfold given
  rw [List.map_map]
  rfl
noncomputable def hmid (wd : Wd) (ns : List Nat) (i : Nat) : V := match wd with
  | .sets => oV (hiS ns i)
  | _ => .non
def RetEx (wd : Wd) (ns : List Nat) (i : Nat) (H : Hp) (Q : VK) : Prop :=
  if fitB wd (ns.set i (loW wd ns i)) = true then ∀ t H', H t = none → Ex H H' → H' t = some (.tup [.int ((loW wd ns i : Nat) : Int), oV (hiW wd ns i)]) → Q (.ref t) H' else ∀ H', Ex H H' → Q .non H'
section
variable {P : Program} {w : World} {K : PySem.W.Frag} {mg : Str → Option Value} {base : Heap}
def sp_lends : Sp := fun vs H Q _ => ∃ (wd : Wd) (a : Addr) (ns : List Nat) (i : Nat), vs = [.str wd.s, .ref a, .int i] ∧ isSP wd ∧ Rd H a (.tup (oVs (gp ns i))) ∧ Gp ns i ∧ (wd = .products → 1 ≤ i) ∧ RetEx wd ns i H Q
theorem ok_l_ends (T : Txt K mg) : FnOk P w K mg base CX0 6 T.f_l_ends T.d_l_ends ["word", "row", "at"] sp_lends := by
  have F_l_lower_sets := ok_l_lower_sets (P := P) (w := w) (base := base) T
  have F_l_upper_products := ok_l_upper_products (P := P) (w := w) (base := base) T
  have F_l_upper_sets := ok_l_upper_sets (P := P) (w := w) (base := base) T
  have F_l_lower_products := ok_l_lower_products (P := P) (w := w) (base := base) T
  refine T.U_l_ends.ok sc_l_ends (fun vs H Q E h => ?_) (fun cdv A outer s H vs Q E hr h => ?_)
  · obtain ⟨_, _, _, _, rfl, _⟩ := h
    rfl
  · obtain ⟨wd, a, ns, i, rfl, hw, ha, G, hp, q⟩ := h
    refine ⟨_, (pss_cons (ps_for PassesOwn.never rfl (pi_range2 rfl T.n_range (pa_cons pe_int (pa_cons (pe_callB call_len_seq (by rfl) T.n_len PySem.boot_len (pa_cons (pv 1) pa_nil)) pa_nil))) (pg_name (i := 3) sc_l_ends.nd rfl (.inl rfl)) (pss_one (ps_if (PW.pt (pw_and (pt_cmpR op_ne (pv 3) (pv 2) (nomark _)) (pw_and1 (pt_cmpR op_ne (pe_op op_sub (pv 3) pe_int) (pv 2) (nomark _))))) (pss_cons (ps_if (PW.pt (pw_and (pt_cmpR op_eq (pv 0) pe_str (nomark _)) (pw_and1 (PW.pt (pw_or (pt_cmpR op_lt (pe_ix ix_tup (pv 1) (pv 3) (fun _ _ => rfl)) pe_int (nomark _)) (pw_or1 (pt_cmpR op_gt (pe_call F_l_lower_sets (hr.mono (by decide)) (by rfl) T.g_l_lower_sets T.k_l_lower_sets T.b_l_lower_sets .nil pass0 (pa_cons (pe_ix ix_tup (pv 1) (pv 3) (fun _ _ => rfl)) (pa_cons (pe_op op_add (pv 3) pe_int) pa_nil))) (pe_ix ix_tup (pv 1) (pe_op op_sub (pv 3) pe_int) (fun _ _ => rfl)) (nomark _)))))))) (pss_one (ps_ret pe_non)) pss_nil)
  (pss_one (ps_if (PW.pt (pw_and (pt_cmpR op_ne (pv 0) pe_str (nomark _)) (pw_and (pt_cmpR op_gt (pv 3) pe_int (nomark _)) (pw_and1 (pt_cmpR op_gt (pe_ix ix_tup (pv 1) (pv 3) (fun _ _ => rfl)) (pe_call F_l_upper_products (hr.mono (by decide)) (by rfl) T.g_l_upper_products T.k_l_upper_products T.b_l_upper_products .nil pass0 (pa_cons (pe_ix ix_tup (pv 1) (pe_op op_sub (pv 3) pe_int) (fun _ _ => rfl)) (pa_cons (pe_op op_sub (pv 3) pe_int) pa_nil))) (nomark _)))))) (pss_one (ps_ret pe_non)) pss_nil))) pss_nil)))
  (pss_cut (ps_if (PW.pt (pw_and (pt_cmpR op_eq (pv 0) pe_str (nomark _)) (pw_and1 (pt_cmpR (op_neD hr.units) (pe_lc (own := [("it", 6)]) (g := gName 6) (tt := _) rfl sc_l_ends.nd (pi_tup (pv 1)) (blkOk_by (own := [("it", 6)]) (N := ["word", "row", "at", "k", "low", "high", "it"]) (sc := defScope s_l_ends) (by decide +kernel)) (fun _ _ _ _ _ => pg_name (i := 6) sc_l_ends.nd rfl (Or.inl rfl)) (fun _ _ _ _ _ => pts_one (PW.pt (pw_and (pt_cmpR op_notNo (pv 6) pe_non (nomark _)) (pw_and1 (pt_cmpR op_lt (pv 6) pe_int (nomark _)))))) (fun _ _ _ _ _ => (pv 6))) (pe_lst pa_nil) (nomark _))))) (pss_one (ps_ret pe_non)) pss_nil)
  (pss_cons (ps_par rfl sc_l_ends.nd (i := 4) (j := 5) rfl rfl (by decide) rfl rfl (pa_cons (pe_callTy call_int1 (by rfl) T.n_int (by decide +kernel) (pa_cons (pe_cmpR op_eq (pv 0) pe_str (nomark _)) pa_nil)) (pa_cons pe_non pa_nil)) (by rfl))
  (pss_cut (ps_if (PW.pt (pw_and (pt_cmpR op_lt (pe_op op_add (pv 2) pe_int) (pe_callB call_len_seq (by rfl) T.n_len PySem.boot_len (pa_cons (pv 1) pa_nil)) (nomark _)) (pw_and1 (pt_cmpR op_eq (pv 0) pe_str (nomark _))))) (pss_one (ps_set (i := 4) sc_l_ends.nd rfl (.inl rfl) (pe_callB (call_max2 rfl) (by rfl) T.n_max (by decide +kernel) (pa_cons (pv 4) (pa_cons (pe_call F_l_lower_sets (hr.mono (by decide)) (by rfl) T.g_l_lower_sets T.k_l_lower_sets T.b_l_lower_sets .nil pass0 (pa_cons (pe_ix ix_tup (pv 1) (pe_op op_add (pv 2) pe_int) (fun _ _ => rfl)) (pa_cons (pe_op op_add (pv 2) pe_int) pa_nil))) pa_nil))))) (pss_one (ps_if (pt_cmpR op_lt (pe_op op_add (pv 2) pe_int) (pe_callB call_len_seq (by rfl) T.n_len PySem.boot_len (pa_cons (pv 1) pa_nil)) (nomark _)) (pss_one (ps_set (i := 4) sc_l_ends.nd rfl (.inl rfl) (pe_call F_l_lower_products (hr.mono (by decide)) (by rfl) T.g_l_lower_products T.k_l_lower_products T.b_l_lower_products .nil pass0 (pa_cons (pe_ix ix_tup (pv 1) (pe_op op_add (pv 2) pe_int) (fun _ _ => rfl)) (pa_cons (pe_op op_add (pv 2) pe_int) pa_nil))))) pss_nil)))
  (pss_cut (ps_if (PW.pt (pw_and (pt_cmpR op_eq (pv 0) pe_str (nomark _)) (pw_and1 (pt_cmpR op_gt (pv 2) pe_int (nomark _))))) (pss_one (ps_set (i := 5) sc_l_ends.nd rfl (.inl rfl) (pe_call F_l_upper_sets (hr.mono (by decide)) (by rfl) T.g_l_upper_sets T.k_l_upper_sets T.b_l_upper_sets .nil pass0 (pa_cons (pe_ix ix_tup (pv 1) (pe_op op_sub (pv 2) pe_int) (fun _ _ => rfl)) (pa_cons (pv 2) pa_nil))))) pss_nil)
  (pss_cut (ps_if (PW.pt (pw_and (pt_cmpR op_ne (pv 0) pe_str (nomark _)) (pw_and1 (pt_cmpR op_gt (pv 2) pe_int (nomark _))))) (pss_one (ps_set (i := 5) sc_l_ends.nd rfl (.inl rfl) (pe_call F_l_upper_products (hr.mono (by decide)) (by rfl) T.g_l_upper_products T.k_l_upper_products T.b_l_upper_products .nil pass0 (pa_cons (pe_ix ix_tup (pv 1) (pe_op op_sub (pv 2) pe_int) (fun _ _ => rfl)) (pa_cons (pe_op op_sub (pv 2) pe_int) pa_nil))))) pss_nil)
  (pss_one (ps_ret (pe_ifExp (PW.pt (pw_and (pt_cmpR op_notNo (pv 5) pe_non (nomark _)) (pw_and1 (pt_cmpR op_lt (pv 5) (pv 4) (nomark _))))) pe_non (pe_tup (pa_cons (pv 4) (pa_cons (pv 5) pa_nil)))))))))))), ?_⟩
    have hi := G.i_lt
    have h16 := G.l16
    have hol : (oVs (gp ns i)).length = ns.length := by rw [oVs_len, gp_len]
    have due := due_iff hw hi hp
    have qn : ¬ (Others wd ns i ∧ ∀ h, hiW wd ns i = some h → loW wd ns i ≤ h) → ∀ H', Ex H H' → Q .non H' := fun hn => by
      unfold RetEx at q
      rw [if_neg (fun z => hn (due.mp z))] at q
      exact q
    have qs : (Others wd ns i ∧ ∀ h, hiW wd ns i = some h → loW wd ns i ≤ h) → ∀ t H', H t = none → Ex H H' → H' t = some (.tup [.int ((loW wd ns i : Nat) : Int), oV (hiW wd ns i)]) → Q (.ref t) H' := fun hn => by
      unfold RetEx at q
      rw [if_pos (due.mpr hn)] at q
      exact q
    have hws : decide (V.str wd.s = V.str "sets") = true ↔ wd = .sets := by
      rcases hw with rfl | rfl
      · exact ⟨fun _ => rfl, fun _ => by decide +kernel⟩
      · exact ⟨fun h => absurd h (by decide +kernel), fun h => by cases h⟩
    have sq : ∀ {H' : Hp}, Ex H H' → SqT K H' a (oVs (gp ns i)) := fun e => .inl (rd_more ha e)
    refine ⟨_, rfl, a, _, rfl, .inr (sq (Ex.refl _)), _, _, rfl, by rw [hol]; omega, ?_⟩
    rw [hol, show ((ns.length : Int) - 1).toNat = ns.length - 1 by omega]
    refine for_range (lo := 1) (n := ns.length - 1) (fun j σ' H' => ∃ y3, σ' = [some (.str wd.s), some (.ref a), some (.int (i : Int)), y3, none, none, none] ∧ Ex H H' ∧ ∀ k, 1 ≤ k → k ≤ j → k ≠ i → k - 1 ≠ i → PairOk wd ns k) ⟨none, rfl, Ex.refl _, fun k k1 k2 => by omega⟩ ?_ ?_
    · rintro j σ' H1 hj ⟨y3, rfl, e1, hok⟩
      have ek : (1 : Int) + (j : Int) = ((j + 1 : Nat) : Int) := by omega
      rw [ek]
      generalize hk : j + 1 = k
      have k1 : 1 ≤ k := by omega
      have kl : k < ns.length := by omega
      have more : (k ≠ i → k - 1 ≠ i → PairOk wd ns k) → ∀ m, 1 ≤ m → m ≤ k → m ≠ i → m - 1 ≠ i → PairOk wd ns m := fun h m m1 m2 mi mi1 => by
        by_cases z : m = k
        · subst z
          exact h mi mi1
        · exact hok m m1 (by omega) mi mi1
      by_cases ki : k = i
      · refine ⟨_, rfl, _, rfl, rfl, _, rfl, ite_no (ne_dec0 (by omega)) ?_⟩
        exact ⟨_, rfl, e1, more fun h => absurd ki h⟩
      refine ⟨_, rfl, _, rfl, rfl, _, rfl, ite_yes (ne_dec (by omega)) ?_⟩
      by_cases ki1 : k - 1 = i
      · refine ⟨_, rfl, _, _, rfl, rfl, _, rfl, rfl, _, rfl, ite_no (ne_dec0 (by omega)) ?_⟩
        exact ⟨_, rfl, e1, more fun _ h => absurd ki1 h⟩
      refine ⟨_, rfl, _, _, rfl, rfl, _, rfl, rfl, _, rfl, ite_yes (ne_dec (by omega)) ?_⟩
      have bad : ¬ PairOk wd ns k → ∀ H', Ex H H' → Q .non H' := fun h => qn fun ⟨o, _⟩ => h (o.1 k k1 kl ki ki1)
      have ik : (oVs (gp ns i))[k]? = some (.int ((ns.getD k 0 : Nat) : Int)) := ogp_ne ki kl
      have ik1 : (oVs (gp ns i))[k - 1]? = some (.int ((ns.getD (k - 1) 0 : Nat) : Int)) := ogp_ne ki1 (by omega)
      rcases hw with rfl | rfl
      · refine ⟨_, rfl, rfl, _, rfl, ite_yes (by decide +kernel) ?_⟩
        refine ⟨_, rfl, _, rfl, a, _, _, _, rfl, rfl, sq e1, atI_nat ik, _, _, rfl, rfl, _, rfl, ite2 (fun e => ?_) (fun e => ?_)⟩
        · have h1 := of_decide_eq_true e
          exact bad (fun ⟨h, _⟩ => by omega) H1 e1
        have hk1 : 1 ≤ ns.getD k 0 := by
          by_cases z : ns.getD k 0 < 1
          · exact absurd (decide_eq_true (by omega)) e
          · omega
        refine ⟨_, rfl, _, rfl, a, _, _, _, rfl, rfl, sq e1, atI_nat ik, _, rfl, _, _, rfl, rfl, _, _, ns.getD k 0, k + 1, rfl, rfl, by omega, G.small _, by omega, by omega, fun H2 e2 => ?_⟩
        have e12 := e1.trans e2
        refine ⟨_, rfl, _, rfl, _, _, rfl, rfl, a, _, _, _, rfl, rfl, sq e12, atI_is (n := k - 1) (by omega) ik1, _, _, rfl, rfl, _, rfl, ite2 (fun e => ?_) (fun e => ?_)⟩
        · have h1 := of_decide_eq_true e
          exact bad (fun ⟨_, h⟩ => by omega) H2 e12
        have hk2 : Lf 0 (k + 1) (ns.getD k 0) ≤ ns.getD (k - 1) 0 := by
          by_cases z : Lf 0 (k + 1) (ns.getD k 0) ≤ ns.getD (k - 1) 0
          · exact z
          · exact absurd (decide_eq_true (by omega)) e
        dsimp only [tNext]
        refine ⟨_, rfl, rfl, _, rfl, ite_no (by decide +kernel) ?_⟩
        exact ⟨_, rfl, e12, more fun _ _ => ⟨hk1, hk2⟩⟩
      · refine ⟨_, rfl, rfl, _, rfl, ite_no (by decide +kernel) ?_⟩
        dsimp only [tNext]
        refine ⟨_, rfl, rfl, _, rfl, ite_yes (by decide +kernel) ?_⟩
        refine ⟨_, rfl, _, _, rfl, rfl, _, rfl, ite2 (fun e => ?_) (fun e => ?_)⟩
        · have k2 : 1 < k := by have := of_decide_eq_true e; omega
          refine ⟨_, rfl, _, rfl, a, _, _, _, rfl, rfl, sq e1, atI_nat ik, ?_⟩
          refine ⟨_, rfl, _, rfl, _, _, rfl, rfl, a, _, _, _, rfl, rfl, sq e1, atI_is (n := k - 1) (by omega) ik1, _, rfl, _, _, rfl, rfl, _, _, ns.getD (k - 1) 0, k - 1, rfl, rfl, by omega, G.small _, by omega, by omega, fun H2 e2 => ?_⟩
          have e12 := e1.trans e2
          refine ⟨_, _, rfl, rfl, _, rfl, ite2 (fun e => ?_) (fun e => ?_)⟩
          · have h1 := of_decide_eq_true e
            exact bad (fun h => by have := h k2; omega) H2 e12
          · have hk2 : ns.getD k 0 ≤ Uf 1 (k - 1) (ns.getD (k - 1) 0) := by
              by_cases z : ns.getD k 0 ≤ Uf 1 (k - 1) (ns.getD (k - 1) 0)
              · exact z
              · exact absurd (decide_eq_true (by omega)) e
            exact ⟨_, rfl, e12, more fun _ _ _ => hk2⟩
        · have k2 : ¬ 1 < k := fun z => e (decide_eq_true (by omega))
          exact ⟨_, rfl, e1, more fun _ _ z => absurd z k2⟩
    · rintro σ' H1 ⟨y3, rfl, e1, hok⟩
      have hpairs : ∀ k, 1 ≤ k → k < ns.length → k ≠ i → k - 1 ≠ i → PairOk wd ns k := fun k k1 kl => hok k k1 (by omega)
      -- no item below 1
      refine ⟨fun σ' H' => σ' = [some (.str wd.s), some (.ref a), some (.int (i : Int)), y3, none, none, none] ∧ Ex H H' ∧ Others wd ns i, ?_, ?_⟩
      · rcases hw with rfl | rfl
        · refine ⟨_, rfl, rfl, _, rfl, ite_yes (by decide +kernel) ?_⟩
          refine r_op ?_
          refine el_lcTR (K := K) (rd_more ha e1) (ev_var rfl) (fun j => !decide (j = i) && decide (ns.getD j 0 < 1)) (fun j => .int ((ns.getD j 0 : Nat) : Int)) (by rw [hol]; omega) ?_ H1 (Ex.refl _) _ ?_
          · intro j x H2 e2 hx
            have hjl : j < ns.length := by have := (List.getElem?_eq_some_iff.mp hx).1; omega
            refine ⟨[some (.str Wd.sets.s), some (.ref a), some (.int (i : Int)), y3, none, none, some x], fun k hk => hk, rfl, ?_, fun hf => ?_⟩
            · intro H3 e3 Q3 q3
              by_cases ji : j = i
              · subst ji
                rw [ogp_eq hjl] at hx
                cases hx
                rw [decide_eq_true rfl] at q3
                exact ⟨_, rfl, rfl, _, rfl, ite_no rfl (q3 H3 (Ex.refl _))⟩
              · rw [ogp_ne ji hjl] at hx
                cases hx
                rw [decide_eq_false ji] at q3
                refine ⟨_, rfl, rfl, _, rfl, ite_yes rfl ⟨_, rfl, _, _, rfl, rfl, _, rfl, ?_⟩⟩
                have : decide (((ns.getD j 0 : Nat) : Int) < 1) = (!false && decide (ns.getD j 0 < 1)) := by
                  rw [Bool.not_false, Bool.true_and]
                  exact decide_eq_decide.mpr (by omega)
                rw [this]
                exact q3 H3 (Ex.refl _)
            · intro H3 e3 Q3 q3
              have ji : j ≠ i := fun z => by
                subst z
                simp at hf
              rw [ogp_ne ji hjl] at hx
              cases hx
              exact ⟨_, rfl, q3 H3 (Ex.refl _)⟩
          intro L H2 nL e2 hL
          rw [given_int, hol] at hL
          generalize hfl : ((List.range ns.length).filter fun j => !decide (j = i) && decide (ns.getD j 0 < 1)) = fl at hL
          have e12 := e1.trans e2
          refine ⟨Nat.zero_le _, fun o no => ⟨izD (fl.map fun j => ((ns.getD j 0 : Nat) : Int)), izD [], izD_dp (SqL.of ((Ex.new no) _ _ hL)), izD_dp (xs := []) (SqL.of upd_same), izD_shaped _, izD_shaped _, _, rfl, ?_⟩⟩
          rw [izD_eqv_nil]
          cases fl with
          | cons j r =>
            refine iteT ?_
            have hj : j ∈ (List.range ns.length).filter fun j => !decide (j = i) && decide (ns.getD j 0 < 1) := by rw [hfl]; exact .head _
            obtain ⟨h1, h2⟩ := List.mem_filter.mp hj
            have hjl := List.mem_range.mp h1
            rw [Bool.and_eq_true, Bool.not_eq_true', decide_eq_false_iff_not, decide_eq_true_eq] at h2
            exact qn (fun ⟨o, _⟩ => by have := o.2 rfl j hjl h2.1; omega) _ (e12.trans (Ex.new no))
          | nil =>
            refine iteF ?_
            refine ⟨rfl, e12.trans (Ex.new no), hpairs, fun _ j hj hji => ?_⟩
            by_cases z : 1 ≤ ns.getD j 0
            · exact z
            · have hj : j ∈ (List.range ns.length).filter fun j => !decide (j = i) && decide (ns.getD j 0 < 1) := by
                refine List.mem_filter.mpr ⟨List.mem_range.mpr hj, ?_⟩
                rw [decide_eq_false hji, decide_eq_true (by omega)]
                rfl
              rw [hfl] at hj
              cases hj
        · refine ⟨_, rfl, rfl, _, rfl, ite_no (by decide +kernel) ?_⟩
          exact ⟨rfl, e1, hpairs, fun z => by cases z⟩
      rintro σ' H2 ⟨rfl, e2, oth⟩
      have lo1 : wd = .sets → i + 1 < ns.length → 1 ≤ Lf 0 (i + 2) (ns.getD (i + 1) 0) := fun h1 h2 => Lf_pos (δ := 0) (s := i + 1) (by decide) (by omega) (oth.2 h1 (i + 1) h2 (by omega))
      refine ⟨_, rfl, rfl, .inr ⟨_, rfl, _, _, rfl, ?_⟩⟩
      refine ⟨fun σ' H' => σ' = [some (.str wd.s), some (.ref a), some (.int (i : Int)), y3, some (.int ((loW wd ns i : Nat) : Int)), some .non, none] ∧ Ex H H', ?_, ?_⟩
      · by_cases hlt : i + 1 < ns.length
        · have ix : (oVs (gp ns i))[i + 1]? = some (.int ((ns.getD (i + 1) 0 : Nat) : Int)) := ogp_ne (by omega) hlt
          have hc : decide ((i : Int) + 1 < ((oVs (gp ns i)).length : Int)) = true := decide_eq_true (by omega)
          rcases hw with rfl | rfl
          · refine ⟨_, rfl, _, _, rfl, rfl, _, rfl, a, _, rfl, .inr (sq e2), _, _, rfl, rfl, _, rfl, ite_yes hc ?_⟩
            refine ⟨_, rfl, rfl, _, rfl, ite_yes (by decide +kernel) ?_⟩
            refine ⟨_, rfl, _, rfl, _, rfl, _, _, rfl, rfl, a, _, _, _, rfl, rfl, sq e2, atI_is (n := i + 1) (by omega) ix, _, rfl, _, _, rfl, rfl, _, _, ns.getD (i + 1) 0, i + 2, rfl, rfl, by omega, G.small _, by omega, by omega, fun H3 e3 => ⟨_, _, rfl, ?_⟩⟩
            refine ⟨?_, e2.trans e3⟩
            have l1 := lo1 rfl hlt
            have el : loW .sets ns i = Lf 0 (i + 2) (ns.getD (i + 1) 0) := if_pos hlt
            rw [el, if_pos (by decide +kernel)]
            have : (if ((Lf 0 (i + 2) (ns.getD (i + 1) 0) : Nat) : Int) > 1 then ((Lf 0 (i + 2) (ns.getD (i + 1) 0) : Nat) : Int) else 1) = ((Lf 0 (i + 2) (ns.getD (i + 1) 0) : Nat) : Int) := by
              split <;> omega
            rw [this]
            rfl
          · refine ⟨_, rfl, _, _, rfl, rfl, _, rfl, a, _, rfl, .inr (sq e2), _, _, rfl, rfl, _, rfl, ite_yes hc ?_⟩
            refine ⟨_, rfl, rfl, _, rfl, ite_no (by decide +kernel) ?_⟩
            refine ⟨_, rfl, _, _, rfl, rfl, _, rfl, a, _, rfl, .inr (sq e2), _, _, rfl, rfl, _, rfl, ite_yes hc ?_⟩
            refine ⟨_, rfl, _, rfl, _, _, rfl, rfl, a, _, _, _, rfl, rfl, sq e2, atI_is (n := i + 1) (by omega) ix, _, rfl, _, _, rfl, rfl, _, _, ns.getD (i + 1) 0, i + 1, rfl, rfl, by omega, G.small _, by omega, by omega, fun H3 e3 => ⟨?_, e2.trans e3⟩⟩
            have el : loW .products ns i = Lf 1 (i + 1) (ns.getD (i + 1) 0) := if_pos hlt
            rw [el]
            rfl
        · have hc : decide ((i : Int) + 1 < ((oVs (gp ns i)).length : Int)) = false := decide_eq_false (by omega)
          refine ⟨_, rfl, _, _, rfl, rfl, _, rfl, a, _, rfl, .inr (sq e2), _, _, rfl, rfl, _, rfl, ite_no hc ?_⟩
          refine ⟨_, rfl, _, _, rfl, rfl, _, rfl, a, _, rfl, .inr (sq e2), _, _, rfl, rfl, _, rfl, ite_no hc ⟨?_, e2⟩⟩
          rcases hw with rfl | rfl
          · have el : loW .sets ns i = 1 := if_neg hlt
            rw [el, if_pos (by decide +kernel)]
            rfl
          · have el : loW .products ns i = 0 := if_neg hlt
            rw [el, if_neg (by decide +kernel)]
            rfl
      rintro σ' H3 ⟨rfl, e3⟩
      refine ⟨fun σ' H' => σ' = [some (.str wd.s), some (.ref a), some (.int (i : Int)), y3, some (.int ((loW wd ns i : Nat) : Int)), some (hmid wd ns i), none] ∧ Ex H H', ?_, ?_⟩
      · by_cases h0 : 0 < i
        · rcases hw with rfl | rfl
          · refine ⟨_, rfl, rfl, _, rfl, ite_yes (by decide +kernel) ?_⟩
            refine ⟨_, rfl, _, _, rfl, rfl, _, rfl, ite_yes (decide_eq_true (by omega)) ?_⟩
            refine ⟨_, rfl, _, rfl, _, _, rfl, rfl, a, _, _, _, rfl, rfl, sq e3, atI_is (n := i - 1) (by omega) (ogp_ne (by omega) (by omega)), _, rfl, _, _, ns.getD (i - 1) 0, i, rfl, rfl, rfl, G.small _, by omega, by omega, fun H4 e4 => ⟨?_, e3.trans e4⟩⟩
            have el : hmid .sets ns i = .int ((Uf 0 i (ns.getD (i - 1) 0) : Nat) : Int) := by
              show oV (hiS ns i) = _
              unfold hiS
              rw [if_pos h0]
              rfl
            rw [el]
            rfl
          · refine ⟨_, rfl, rfl, _, rfl, ite_no (by decide +kernel) ⟨rfl, e3⟩⟩
        · rcases hw with rfl | rfl
          · refine ⟨_, rfl, rfl, _, rfl, ite_yes (by decide +kernel) ?_⟩
            refine ⟨_, rfl, _, _, rfl, rfl, _, rfl, ite_no (decide_eq_false (by omega)) ⟨?_, e3⟩⟩
            have el : hmid .sets ns i = .non := by
              show oV (hiS ns i) = _
              unfold hiS
              rw [if_neg h0]
              rfl
            rw [el]
          · refine ⟨_, rfl, rfl, _, rfl, ite_no (by decide +kernel) ⟨rfl, e3⟩⟩
      rintro σ' H4 ⟨rfl, e4⟩
      refine ⟨fun σ' H' => σ' = [some (.str wd.s), some (.ref a), some (.int (i : Int)), y3, some (.int ((loW wd ns i : Nat) : Int)), some (oV (hiW wd ns i)), none] ∧ Ex H H', ?_, ?_⟩
      · rcases hw with rfl | rfl
        · refine ⟨_, rfl, rfl, _, rfl, ite_no (by decide +kernel) ⟨rfl, e4⟩⟩
        · refine ⟨_, rfl, rfl, _, rfl, ite_yes (by decide +kernel) ?_⟩
          refine ⟨_, rfl, _, _, rfl, rfl, _, rfl, ite2 (fun e => ?_) (fun e => ?_)⟩
          · have h1 : 1 < i := by have := of_decide_eq_true e; omega
            refine ⟨_, rfl, _, rfl, _, _, rfl, rfl, a, _, _, _, rfl, rfl, sq e4, atI_is (n := i - 1) (by omega) (ogp_ne (by omega) (by omega)), _, rfl, _, _, rfl, rfl, _, _, ns.getD (i - 1) 0, i - 1, rfl, rfl, by omega, G.small _, by omega, by omega, fun H5 e5 => ⟨?_, e4.trans e5⟩⟩
            have el : hiW .products ns i = some (Uf 1 (i - 1) (ns.getD (i - 1) 0)) := if_pos h1
            rw [el]
            rfl
          · have h1 : ¬ 1 < i := fun z => e (decide_eq_true (by omega))
            have el : hiW .products ns i = none := if_neg h1
            rw [el]
            exact ⟨rfl, e4⟩
      rintro σ' H5 ⟨rfl, e5⟩
      cases hh : hiW wd ns i with
      | none =>
        rw [hh] at qs
        refine ⟨_, rfl, rfl, _, rfl, ite_no rfl ?_⟩
        exact ⟨_, rfl, _, rfl, small2, fun t nt => qs ⟨oth, fun h z => by cases z⟩ t _ (fresh_back e5 nt) (e5.trans (Ex.new nt)) upd_same⟩
      | some h =>
        refine ⟨_, rfl, rfl, _, rfl, ite_yes rfl ?_⟩
        refine ⟨_, rfl, _, rfl, _, _, rfl, rfl, _, rfl, ite2 (fun e => ?_) (fun e => ?_)⟩
        · have h1 := of_decide_eq_true e
          refine qn (fun ⟨_, z⟩ => ?_) H5 e5
          have := z h hh
          omega
        · rw [hh] at qs
          refine ⟨_, rfl, _, rfl, small2, fun t nt => qs ⟨oth, fun h' z => ?_⟩ t _ (fresh_back e5 nt) (e5.trans (Ex.new nt)) upd_same⟩
          cases z
          by_cases hle : loW wd ns i ≤ h
          · exact hle
          · exact absurd (decide_eq_true (by omega)) e
end
end K88

set_option exponentiation.threshold 3000
namespace K88
open PySem PySem.Spec PyProof.Rows L2 Hr HrM Evl HrE_thing LamX RZ
def oD : Option Nat → PyData
  | none => .none
  | some n => .int (n : Int)
theorem oD_df {H : Hp} (o : Option Nat) : Df H (oV o) (oD o) := by
  cases o with
  | none => exact .non
  | some n => exact .int _
theorem fineN {n : Nat} (h : n < 2 ^ 1900) : Fine (.int (n : Int)) 0 := by
  have hl : ((n : Int)).natAbs.log2 < 1920 := by
    have := PySem.Flt.log2_lt_of (by decide) (show ((n : Int)).natAbs < 2 ^ 1900 by rw [Int.natAbs_natCast]; exact h)
    omega
  refine ⟨decide_eq_true hl, rfl, ?_, Nat.zero_le _, Nat.zero_le _⟩
  simp only [PyData.leavesShort, decide_eq_true_eq]
  exact int_text_len_1921 hl
theorem fineO {o : Option Nat} (h : ∀ n, o = some n → n < 2 ^ 1900) : Fine (oD o) 0 := by
  cases o with
  | none => exact ⟨rfl, rfl, by decide +kernel, Nat.zero_le _, Nat.zero_le _⟩
  | some n => exact fineN (h n rfl)
theorem fineP {n : Nat} {o : Option Nat} (hn : n < 2 ^ 1900) (h : ∀ n, o = some n → n < 2 ^ 1900) : Fine (.tuple [.int (n : Int), oD o]) 8000 :=
  ((FineL.cons (fineN hn) (by show PyData.depth (.int _) ≤ 20; exact Nat.zero_le _) (FineL.cons (fineO h) (by cases o <;> exact Nat.zero_le _) FineL.nil)).tup).up (by decide)
theorem hiW_lt {wd : Wd} {ns : List Nat} {i : Nat} (hw : isSP wd) (G : Gp ns i) : ∀ n, hiW wd ns i = some n → n < 2 ^ 1850 := by
  have h1 := G.i_lt
  have h2 := G.l16
  intro n hn
  rcases hw with rfl | rfl
  · have hn' : hiS ns i = some n := hn
    unfold hiS at hn'
    split at hn'
    · cases hn'
      exact Uf_lt (by decide) (G.small _) (by omega) (by omega)
    · cases hn'
  · have hn' : hiP ns i = some n := hn
    unfold hiP at hn'
    split at hn'
    · cases hn'
      exact Uf_lt (by decide) (G.small _) (by omega) (by omega)
    · cases hn'
theorem to1900 {n : Nat} (h : n < 2 ^ 1850) : n < 2 ^ 1900 := Nat.lt_trans h (Nat.pow_lt_pow_right (by decide) (by decide))
section
variable {P : Program} {w : World} {K : PySem.W.Frag} {mg : Str → Option Value} {base : Heap}
def sp_nr (TL : List (Addr × Str)) : Sp := fun vs H Q _ => ∃ (wd : Wd) (a : Addr) (ns : List Nat) (i : Nat) (t : Addr), vs = [.str wd.s, .ref a, .int i, .ref t] ∧ isSP wd ∧ Rd H a (.tup (oVs (gp ns i))) ∧ Gp ns i ∧ (wd = .products → 1 ≤ i) ∧ Others wd ns i ∧ H t = some (.tup [.int ((loW wd ns i : Nat) : Int), oV (hiW wd ns i)]) ∧ Tabs TL H ∧ RetVk TL (.bl true) H Q
theorem ok_are_numbers_right (T : Txt K mg) (TB : TabB base mg T.c_greatest_top T.P_greatest_top) : FnG P w K mg base CX0 8 T.f_l_are_numbers_right T.d_l_are_numbers_right ["word", "row", "at", "ends"] (sp_nr (tabs T)) := by
  have F_lower_sets := (ok_lower_sets (P := P) (w := w) (base := base) T TB).imp (numOf numLS)
  have F_upper_sets := (ok_upper_sets (P := P) (w := w) (base := base) T TB).imp (numOf numUS)
  have F_lower_products := (ok_lower_products (P := P) (w := w) (base := base) T TB).imp (numOf numLP)
  have F_upper_products := (ok_upper_products (P := P) (w := w) (base := base) T TB).imp (numOf numUP)
  refine okG T.U_l_are_numbers_right sc_l_are_numbers_right (fun vs H Q E h => ?_) (fun cdv A outer s H vs Q E hr gg h => ?_)
  · obtain ⟨_, _, _, _, _, rfl, _⟩ := h
    rfl
  · obtain ⟨wd, a, ns, i, t, rfl, hw, ha, G, hp, oth, ht, hT, q⟩ := h
    refine ⟨_, (pss_cons (ps_asg (pv 3) (pg_tup (by rfl) (pgs_cons (pg_name (i := 4) sc_l_are_numbers_right.nd rfl (.inl rfl)) (pgs_cons (pg_name (i := 5) sc_l_are_numbers_right.nd rfl (.inl rfl)) pgs_nil))))
  (pss_cut (ps_if (pt_cmpR op_eq (pv 0) pe_str (nomark _)) (pss_cut (ps_set (i := 6) sc_l_are_numbers_right.nd rfl (.inl rfl) (pe_ifExp (pt_cmpR op_lt (pe_op op_add (pv 2) pe_int) (pe_callB call_len_seq (by rfl) T.n_len PySem.boot_len (pa_cons (pv 1) pa_nil)) (nomark _)) (pe_callB (call_max2 rfl) (by rfl) T.n_max (by decide +kernel) (pa_cons pe_int (pa_cons (pe_call F_lower_sets (hr.mono (by decide)) (by rfl) T.g_lower_sets T.k_lower_sets T.b_lower_sets .nil pass0 (pa_cons (pe_ix ix_tup (pv 1) (pe_op op_add (pv 2) pe_int) (fun _ _ => rfl)) (pa_cons (pe_op op_add (pv 2) pe_int) pa_nil))) pa_nil))) pe_int))
  (pss_one (ps_set (i := 7) sc_l_are_numbers_right.nd rfl (.inl rfl) (pe_ifExp (pt_cmpR op_gt (pv 2) pe_int (nomark _)) (pe_call F_upper_sets (hr.mono (by decide)) (by rfl) T.g_upper_sets T.k_upper_sets T.b_upper_sets .nil pass0 (pa_cons (pe_ix ix_tup (pv 1) (pe_op op_sub (pv 2) pe_int) (fun _ _ => rfl)) (pa_cons (pv 2) pa_nil))) pe_non)))) (pss_cut (ps_set (i := 6) sc_l_are_numbers_right.nd rfl (.inl rfl) (pe_ifExp (pt_cmpR op_lt (pe_op op_add (pv 2) pe_int) (pe_callB call_len_seq (by rfl) T.n_len PySem.boot_len (pa_cons (pv 1) pa_nil)) (nomark _)) (pe_call F_lower_products (hr.mono (by decide)) (by rfl) T.g_lower_products T.k_lower_products T.b_lower_products .nil pass0 (pa_cons (pe_ix ix_tup (pv 1) (pe_op op_add (pv 2) pe_int) (fun _ _ => rfl)) (pa_cons (pe_op op_add (pv 2) pe_int) pa_nil))) pe_int))
  (pss_one (ps_set (i := 7) sc_l_are_numbers_right.nd rfl (.inl rfl) (pe_ifExp (pt_cmpR op_gt (pv 2) pe_int (nomark _)) (pe_call F_upper_products (hr.mono (by decide)) (by rfl) T.g_upper_products T.k_upper_products T.b_upper_products .nil pass0 (pa_cons (pe_ix ix_tup (pv 1) (pe_op op_sub (pv 2) pe_int) (fun _ _ => rfl)) (pa_cons (pe_op op_sub (pv 2) pe_int) pa_nil))) pe_non)))))
  (pss_one (ps_ret (pe_cmpR op_eq (pe_callB (cr_reprY gg hr.units) (by rfl) T.n_repr (by decide +kernel) (pa_cons (pe_tup (pa_cons (pv 6) (pa_cons (pv 7) pa_nil))) pa_nil)) (pe_callB (cr_reprY gg hr.units) (by rfl) T.n_repr (by decide +kernel) (pa_cons (pe_tup (pa_cons (pv 4) (pa_cons (pv 5) pa_nil))) pa_nil)) (nomark _)))))), ?_⟩
    have hi := G.i_lt
    have h16 := G.l16
    have hol : (oVs (gp ns i)).length = ns.length := by rw [oVs_len, gp_len]
    refine ⟨_, rfl, t, _, rfl, SqT.of ht, rfl, _, _, rfl, _, _, rfl, rfl, ?_⟩
    have lo1 : wd = .sets → i + 1 < ns.length → 1 ≤ Lf 0 (i + 2) (ns.getD (i + 1) 0) := fun h1 h2 => Lf_pos (δ := 0) (s := i + 1) (by decide) (by omega) (oth.2 h1 (i + 1) h2 (by omega))
    have sq : ∀ {H' : Hp}, Ek (tabs T) H H' → SqT K H' a (oVs (gp ns i)) := fun e => .inl (rd_ek ha e)
    refine ⟨fun σ' H' => σ' = [some (.str wd.s), some (.ref a), some (.int (i : Int)), some (.ref t), some (.int ((loW wd ns i : Nat) : Int)), some (oV (hiW wd ns i)), some (.int ((loW wd ns i : Nat) : Int)), some (oV (hiW wd ns i))] ∧ Ek (tabs T) H H', ?_, ?_⟩
    · rcases hw with rfl | rfl
      · refine ⟨_, rfl, rfl, _, rfl, ite_yes (by decide +kernel) ?_⟩
        refine ⟨fun σ' H' => σ' = [some (.str Wd.sets.s), some (.ref a), some (.int (i : Int)), some (.ref t), some (.int ((loW .sets ns i : Nat) : Int)), some (oV (hiW .sets ns i)), some (.int ((loW .sets ns i : Nat) : Int)), none] ∧ Ek (tabs T) H H', ?_, ?_⟩
        · by_cases hlt : i + 1 < ns.length
          · have ix : (oVs (gp ns i))[i + 1]? = some (.int ((ns.getD (i + 1) 0 : Nat) : Int)) := ogp_ne (by omega) hlt
            refine ⟨_, rfl, _, _, rfl, rfl, _, rfl, a, _, rfl, .inr (sq (Ek.refl _)), _, _, rfl, rfl, _, rfl, ite_yes (decide_eq_true (by omega)) ?_⟩
            refine ⟨_, rfl, _, rfl, _, _, rfl, rfl, a, _, _, _, rfl, rfl, sq (Ek.refl _), atI_is (n := i + 1) (by omega) ix, _, rfl, _, _, rfl, rfl, _, _, ns.getD (i + 1) 0, i + 2, rfl, rfl, by omega, p100 (G.small _), by omega, by omega, hT, fun H3 e3 => ⟨_, _, rfl, ?_, e3⟩⟩
            have el : loW .sets ns i = Lf 0 (i + 2) (ns.getD (i + 1) 0) := if_pos hlt
            rw [el]
            have l1 := lo1 rfl hlt
            have : (if ((Lf 0 (i + 2) (ns.getD (i + 1) 0) : Nat) : Int) > 1 then ((Lf 0 (i + 2) (ns.getD (i + 1) 0) : Nat) : Int) else 1) = ((Lf 0 (i + 2) (ns.getD (i + 1) 0) : Nat) : Int) := by
              split <;> omega
            rw [this]
            rfl
          · refine ⟨_, rfl, _, _, rfl, rfl, _, rfl, a, _, rfl, .inr (sq (Ek.refl _)), _, _, rfl, rfl, _, rfl, ite_no (decide_eq_false (by omega)) ⟨?_, Ek.refl _⟩⟩
            have el : loW .sets ns i = 1 := if_neg hlt
            rw [el]
            rfl
        rintro σ' H1 ⟨rfl, e1⟩
        by_cases h0 : 0 < i
        · refine ⟨_, rfl, _, _, rfl, rfl, _, rfl, ite_yes (decide_eq_true (by omega)) ?_⟩
          refine ⟨_, rfl, _, rfl, _, _, rfl, rfl, a, _, _, _, rfl, rfl, sq e1, atI_is (n := i - 1) (by omega) (ogp_ne (by omega) (by omega)), _, rfl, _, _, ns.getD (i - 1) 0, i, rfl, rfl, rfl, p100 (G.small _), by omega, by omega, e1.t hT, fun H4 e4 => ⟨?_, e1.trans e4⟩⟩
          have el : hiW .sets ns i = some (Uf 0 i (ns.getD (i - 1) 0)) := if_pos h0
          rw [el]
          rfl
        · refine ⟨_, rfl, _, _, rfl, rfl, _, rfl, ite_no (decide_eq_false (by omega)) ⟨?_, e1⟩⟩
          have el : hiW .sets ns i = none := if_neg h0
          rw [el]
          rfl
      · refine ⟨_, rfl, rfl, _, rfl, ite_no (by decide +kernel) ?_⟩
        refine ⟨fun σ' H' => σ' = [some (.str Wd.products.s), some (.ref a), some (.int (i : Int)), some (.ref t), some (.int ((loW .products ns i : Nat) : Int)), some (oV (hiW .products ns i)), some (.int ((loW .products ns i : Nat) : Int)), none] ∧ Ek (tabs T) H H', ?_, ?_⟩
        · by_cases hlt : i + 1 < ns.length
          · have ix : (oVs (gp ns i))[i + 1]? = some (.int ((ns.getD (i + 1) 0 : Nat) : Int)) := ogp_ne (by omega) hlt
            refine ⟨_, rfl, _, _, rfl, rfl, _, rfl, a, _, rfl, .inr (sq (Ek.refl _)), _, _, rfl, rfl, _, rfl, ite_yes (decide_eq_true (by omega)) ?_⟩
            refine ⟨_, rfl, _, rfl, _, _, rfl, rfl, a, _, _, _, rfl, rfl, sq (Ek.refl _), atI_is (n := i + 1) (by omega) ix, _, rfl, _, _, rfl, rfl, _, _, ns.getD (i + 1) 0, i + 1, rfl, rfl, by omega, p100 (G.small _), by omega, by omega, hT, fun H3 e3 => ⟨?_, e3⟩⟩
            have el : loW .products ns i = Lf 1 (i + 1) (ns.getD (i + 1) 0) := if_pos hlt
            rw [el]
            rfl
          · refine ⟨_, rfl, _, _, rfl, rfl, _, rfl, a, _, rfl, .inr (sq (Ek.refl _)), _, _, rfl, rfl, _, rfl, ite_no (decide_eq_false (by omega)) ⟨?_, Ek.refl _⟩⟩
            have el : loW .products ns i = 0 := if_neg hlt
            rw [el]
            rfl
        rintro σ' H1 ⟨rfl, e1⟩
        by_cases h0 : 1 < i
        · refine ⟨_, rfl, _, _, rfl, rfl, _, rfl, ite_yes (decide_eq_true (by omega)) ?_⟩
          refine ⟨_, rfl, _, rfl, _, _, rfl, rfl, a, _, _, _, rfl, rfl, sq e1, atI_is (n := i - 1) (by omega) (ogp_ne (by omega) (by omega)), _, rfl, _, _, rfl, rfl, _, _, ns.getD (i - 1) 0, i - 1, rfl, rfl, by omega, p100 (G.small _), by omega, by omega, e1.t hT, fun H4 e4 => ⟨?_, e1.trans e4⟩⟩
          have el : hiW .products ns i = some (Uf 1 (i - 1) (ns.getD (i - 1) 0)) := if_pos h0
          rw [el]
          rfl
        · refine ⟨_, rfl, _, _, rfl, rfl, _, rfl, ite_no (decide_eq_false (by omega)) ⟨?_, e1⟩⟩
          have el : hiW .products ns i = none := if_neg h0
          rw [el]
          rfl
    rintro σ' H1 ⟨rfl, e1⟩
    have hf := fineP (to1900 (loW_lt hw G)) (fun n hn => to1900 (hiW_lt hw G n hn))
    refine ⟨_, rfl, _, rfl, small2, fun t1 nt1 => ?_⟩
    have e2 := e1.ex (Ex.new (o := .tup [.int ((loW wd ns i : Nat) : Int), oV (hiW wd ns i)]) nt1)
    refine r_nil ?_
    try dsimp only
    refine r_reprYF (.tup (.inl upd_same) (.cons (.int _) (.cons (oD_df _) .nil))) (.inr ⟨_, rfl⟩) hf ?_
    refine ⟨_, rfl, _, rfl, small2, fun t2 nt2 => ?_⟩
    have e3 := e2.ex (Ex.new (o := .tup [.int ((loW wd ns i : Nat) : Int), oV (hiW wd ns i)]) nt2)
    refine r_nil ?_
    try dsimp only
    refine r_reprYF (.tup (.inl upd_same) (.cons (.int _) (.cons (oD_df _) .nil))) (.inr ⟨_, rfl⟩) hf ?_
    exact ⟨rfl, q_bl (Q := Q) (decide_eq_true rfl) (q _ e3)⟩
end
end K88

set_option exponentiation.threshold 3000
namespace K88
open PySem PySem.Spec PyProof.Rows L2 Hr HrM Evl HrE_thing LamX RZ
theorem cut_to (xs : List V) (n : Nat) : cutV xs none (some (n : Int)) = xs.take n := by
  unfold cutV
  rw [HT.sIx_nat, HT.sIx_none, List.drop_zero, Nat.sub_zero]
  by_cases h : n ≤ xs.length
  · rw [Nat.min_eq_left h]
  · rw [Nat.min_eq_right (by omega), List.take_of_length_le (Nat.le_refl _), List.take_of_length_le (by omega)]
theorem gp_cat {ns : List Nat} {i : Nat} (hi : i < ns.length) : ((tz ns).take i ++ [.non]) ++ (tz ns).drop (i + 1) = oVs (gp ns i) := by
  have e : oVs (gp ns i) = (tz ns).set i .non := by
    unfold oVs gp tz iz
    rw [List.map_set, List.map_map, List.map_map]
    rfl
  rw [e, List.set_eq_take_append_cons_drop, if_pos (by rw [tz_len]; exact hi), List.append_assoc]
  rfl
def Fz (H : Hp) (p : Addr) (xs : List V) : Prop := ∃ o, H p = some (.frz o (.tup xs)) ∧ o.dict = none
theorem Fz.rd {H : Hp} {p : Addr} {xs : List V} (h : Fz H p xs) : Rd H p (.tup xs) := let ⟨o, a, _⟩ := h; .inr ⟨o, a⟩
theorem Fz.more {H H' : Hp} {p : Addr} {xs : List V} (h : Fz H p xs) (e : Ex H H') : Fz H' p xs := let ⟨o, a, b⟩ := h; ⟨o, e _ _ a, b⟩
theorem cat_one {K : PySem.W.Frag} {H0 H : Hp} {p1 p2 : Addr} {xs : List V} {y : V} {Q : VK} (e0 : Ex H0 H) (h1 : H p1 = some (.tup xs)) (h2 : Fz H p2 [y]) (n2 : H0 p2 = none) (hz : xs.length ≤ 100)
    (q : ∀ p H', Ex H H' → H0 p = none → Fz H' p (xs ++ [y]) → Q (.ref p) H') : rCatF K (.ref p1) (.ref p2) H Q := by
  refine ⟨p1, p2, xs, [y], rfl, rfl, SqT.of h1, .inl h2.rd, Nat.le_trans (show xs.length + 1 ≤ 101 by omega) (by decide), fun hx => ?_, (fun _ z => by cases z), fun _ _ p o np hd => ?_⟩
  · refine q p2 H (Ex.refl _) n2 ?_
    rw [hx]
    exact h2
  · exact q p _ (Ex.new np) (fresh_back e0 np) ⟨o, upd_same, hd⟩
theorem cat_two {K : PySem.W.Frag} {H0 H : Hp} {p1 p2 : Addr} {xs ys : List V} {Q : VK} (e0 : Ex H0 H) (h1 : Fz H p1 xs) (n1 : H0 p1 = none) (hx : xs ≠ []) (h2 : H p2 = some (.tup ys)) (hz : xs.length + ys.length ≤ 100)
    (q : ∀ p H', Ex H H' → H0 p = none → Fz H' p (xs ++ ys) → Q (.ref p) H') : rCatF K (.ref p1) (.ref p2) H Q := by
  refine ⟨p1, p2, xs, ys, rfl, rfl, .inl h1.rd, SqT.of h2, Nat.le_trans hz (by decide), fun z => absurd z hx, fun _ z => ?_, fun _ _ p o np hd => ?_⟩
  · refine q p1 H (Ex.refl _) n1 ?_
    rw [z, List.append_nil]
    exact h1
  · exact q p _ (Ex.new np) (fresh_back e0 np) ⟨o, upd_same, hd⟩
/-- a row that is asked for -/
structure RowIn (wd : Wd) (ns : List Nat) : Prop where
  l1 : 1 ≤ ns.length
  l16 : ns.length ≤ 16
  l2 : wd = .products → 2 ≤ ns.length
  small : ∀ j, ns.getD j 0 < 2 ^ 100
  one : wd = .products → ns.getD 0 0 = 1
theorem mk_rt {H : Hp} {k p : Addr} {wd : Wd} {ns : List Nat} {i : Nat} (hk : H k = some (.tup [.str wd.s, .ref p])) (hp : Fz H p (oVs (gp ns i))) (hw : isSP wd) (G : Gp ns i) (h1 : wd = .products → 1 ≤ i) (h2 : wd = .products → ns.getD 0 0 = 1) : Rt H k wd p ns i := by
  have hl := gp_len ns i
  have hi := G.i_lt
  have h16 := G.l16
  refine ⟨⟨.inl ⟨?_, hk⟩, fun r hr => ?_, fun _ => ⟨_, rfl⟩, fun z => ?_, fun z r hr => ?_⟩, hw, hp, G⟩
  · rcases hw with rfl | rfl <;> intro z <;> cases z
  · rw [List.mem_singleton.mp hr]
    exact ⟨hp.rd, by show 1 ≤ (gp ns i).length; omega, by show (gp ns i).length ≤ 16; omega⟩
  · rcases hw with rfl | rfl <;> cases z
  · rw [List.mem_singleton.mp hr]
    have := h1 z
    show (gp ns i)[0]? = _
    rw [gp_ne (by omega) (by omega), h2 z]
def Items (wd : Wd) (ns : List Nat) (i n : Nat) (H : Hp) (S : Addr) : Prop := ∃ ts : List Addr, H S = some (.lst (ts.map V.ref)) ∧ ts.length ≤ n ∧ ∀ t ∈ ts, ∃ (x : Nat) (b : Bool), H t = some (.tup [.int (x : Int), .bl b]) ∧ x < 2 ^ 1900 ∧ fitB wd (ns.set i x) = b
def Item (wd : Wd) (ns : List Nat) (i : Nat) (H : Hp) (t : Addr) : Prop := ∃ (x : Nat) (b : Bool), H t = some (.tup [.int (x : Int), .bl b]) ∧ x < 2 ^ 1900 ∧ fitB wd (ns.set i x) = b
theorem Item.more {wd : Wd} {ns : List Nat} {i : Nat} {H H' : Hp} {t : Addr} (h : Item wd ns i H t) (e : Ex H H') : Item wd ns i H' t := let ⟨x, b, a, c⟩ := h; ⟨x, b, e _ _ a, c⟩
theorem items4 {wd : Wd} {ns : List Nat} {i : Nat} {H0 H1 H2 H3 H4 : Hp} {t1 t2 t3 t4 S : Addr} (i1 : Item wd ns i H1 t1) (i2 : Item wd ns i H2 t2) (i3 : Item wd ns i H3 t3) (i4 : Item wd ns i H4 t4) (e12 : Ex H1 H2) (e23 : Ex H2 H3) (e34 : Ex H3 H4) (nS : H4 S = none) :
    Items wd ns i 4 (upd H4 S (.lst [.ref t1, .ref t2, .ref t3, .ref t4])) S := by
  have e := Ex.new (o := .lst [.ref t1, .ref t2, .ref t3, .ref t4]) nS
  refine ⟨[t1, t2, t3, t4], upd_same, Nat.le_refl 4, fun t ht => ?_⟩
  simp only [List.mem_cons, List.not_mem_nil, or_false] at ht
  rcases ht with rfl | rfl | rfl | rfl
  · exact i1.more (e12.trans (e23.trans (e34.trans e)))
  · exact i2.more (e23.trans (e34.trans e))
  · exact i3.more (e34.trans e)
  · exact i4.more e
theorem fine_none : Fine .none 8000 := ⟨rfl, rfl, by decide +kernel, Nat.zero_le _, Nat.zero_le _⟩
section
variable {P : Program} {w : World} {K : PySem.W.Frag} {mg : Str → Option Value} {base : Heap}
def sp_ir (TL : List (Addr × Str)) : Sp := fun vs H Q _ => ∃ (G : Hp) (d a : Addr) (wd : Wd) (ns : List Nat), vs = [.ref d, .str wd.s, .ref a] ∧ isSP wd ∧ DkT TL G d H ∧ G a = some (.tup (tz ns)) ∧ RowIn wd ns ∧ ∀ G' H', Ex G G' → DkT TL G' d H' → Q (.bl true) H'
theorem ok_is_right (T : Txt K mg) (TB : TabB base mg T.c_greatest_top T.P_greatest_top) {es : Array DictEntry} {n : Nat} (DA : KDict K w T.A_ASKS es n) : FnG P w K mg base CX0 11 T.f_l_is_right T.d_l_is_right ["deck", "word", "row"] (sp_ir (tabs T)) := by
  have F_l_draw := (ok_draw (P := P) (w := w) (base := base) T).imp (drawT (T := tabs T))
  have F_l_ends := ok_l_ends (P := P) (w := w) (base := base) T
  have F_ends_of := ok_ends_of (P := P) (w := w) (base := base) T TB DA
  have F_is_answer := ok_is_answer (P := P) (w := w) (base := base) T TB DA
  have F_l_are_numbers_right := ok_are_numbers_right (P := P) (w := w) (base := base) T TB
  have kb_ends_of_ask := sw1_binds (p1 := "ask") T.U_ends_of fun _ _ _ _ _ _ _ => rfl
  refine okG T.U_l_is_right sc_l_is_right (fun vs H Q E h => ?_) (fun cdv A outer s H vs Q E hr gg h => ?_)
  · obtain ⟨_, _, _, _, _, rfl, _⟩ := h
    rfl
  · obtain ⟨G, d, a, wd, ns, rfl, hw, D, ha, R, q⟩ := h
    refine ⟨_, (pss_cut (ps_set (i := 3) sc_l_is_right.nd rfl (.inl rfl) (pe_ifExp (pt_cmpR op_eq (pv 1) pe_str (nomark _)) (pe_call F_l_draw (hr.mono (by decide)) (by rfl) T.g_l_draw T.k_l_draw T.b_l_draw .nil pass0 (pa_cons (pv 0) (pa_cons (pe_callB call_len_seq (by rfl) T.n_len PySem.boot_len (pa_cons (pv 2) pa_nil)) pa_nil))) (pe_op op_add pe_int (pe_call F_l_draw (hr.mono (by decide)) (by rfl) T.g_l_draw T.k_l_draw T.b_l_draw .nil pass0 (pa_cons (pv 0) (pa_cons (pe_op op_sub (pe_callB call_len_seq (by rfl) T.n_len PySem.boot_len (pa_cons (pv 2) pa_nil)) pe_int) pa_nil))))))
  (pss_cut (ps_set (i := 4) sc_l_is_right.nd rfl (.inl rfl) (pe_op op_catF (pe_op op_catF (pe_slice sl_tupN (pv 2) po_none (po_some (pv 3))) (pe_tupF (pa_cons pe_non pa_nil))) (pe_slice sl_tupN (pv 2) (po_some (pe_op op_add (pv 3) pe_int)) po_none)))
  (pss_cons (ps_par rfl sc_l_is_right.nd (i := 5) (j := 6) rfl rfl (by decide) rfl rfl (pa_cons (pe_tup (pa_cons (pv 1) (pa_cons (pv 4) pa_nil))) (pa_cons (pe_call F_l_ends (hr.mono (by decide)) (by rfl) T.g_l_ends T.k_l_ends T.b_l_ends .nil pass0 (pa_cons (pv 1) (pa_cons (pv 4) (pa_cons (pv 3) pa_nil)))) pa_nil)) (by rfl))
  (pss_cut (ps_set (i := 7) sc_l_is_right.nd rfl (.inl rfl) (pe_ifExp (pt_cmpR op_eq (pe_call F_l_draw (hr.mono (by decide)) (by rfl) T.g_l_draw T.k_l_draw T.b_l_draw .nil pass0 (pa_cons (pv 0) (pa_cons pe_int pa_nil))) pe_int (nomark _)) (pe_call F_ends_of (hr.mono (by decide)) (by rfl) T.g_ends_of T.k_ends_of T.b_ends_of .nil (passOn (E := fun _ _ _ => False) LamX.takes0) (pa_cons (pv 5) pa_nil)) (pe_callK0 F_ends_of (hr.mono (by decide)) (by rfl) T.g_ends_of T.k_ends_of kb_ends_of_ask (passOn (E := fun _ _ _ => False) LamX.takes0) (pk_cons (pv 5) pk_nil))))
  (pss_cons (ps_if (pt_cmpR op_ne (pe_callB (cr_reprY gg hr.units) (by rfl) T.n_repr (by decide +kernel) (pa_cons (pv 7) pa_nil)) (pe_callB (cr_reprY gg hr.units) (by rfl) T.n_repr (by decide +kernel) (pa_cons (pv 6) pa_nil)) (nomark _)) (pss_one (ps_ret pe_bl)) pss_nil)
  (pss_cons (ps_if (pt_cmpR op_isNo (pv 6) pe_non (nomark _)) (pss_one (ps_ret (pe_and (pe_cmpR op_isBl (pe_call F_is_answer (hr.mono (by decide)) (by rfl) T.g_is_answer T.k_is_answer T.b_is_answer .nil pass0 (pa_cons (pv 5) (pa_cons (pe_tup (pa_cons (pe_ix ix_tup (pv 2) (pv 3) (fun _ _ => rfl)) pa_nil)) pa_nil))) pe_bl (nomark _)) (pe_one (pe_cmpR op_isBl (pe_call F_is_answer (hr.mono (by decide)) (by rfl) T.g_is_answer T.k_is_answer T.b_is_answer .nil pass0 (pa_cons (pv 5) (pa_cons (pe_tup (pa_cons (pe_call F_l_draw (hr.mono (by decide)) (by rfl) T.g_l_draw T.k_l_draw T.b_l_draw .nil pass0 (pa_cons (pv 0) (pa_cons pe_int pa_nil))) pa_nil)) pa_nil))) pe_bl (nomark _)))))) pss_nil)
  (pss_cons (ps_asg (pv 6) (pg_tup (by rfl) (pgs_cons (pg_name (i := 8) sc_l_is_right.nd rfl (.inl rfl)) (pgs_cons (pg_name (i := 9) sc_l_is_right.nd rfl (.inl rfl)) pgs_nil))))
  (pss_cut (ps_set (i := 10) sc_l_is_right.nd rfl (.inl rfl) (pe_ifExp (pt_cmpR op_isNo (pv 9) pe_non (nomark _)) (pe_op op_add (pe_op op_add (pv 8) pe_int) (pe_call F_l_draw (hr.mono (by decide)) (by rfl) T.g_l_draw T.k_l_draw T.b_l_draw .nil pass0 (pa_cons (pv 0) (pa_cons (pe_op op_pow pe_int pe_int) pa_nil)))) (pv 9)))
  (pss_cut (ps_set (i := 11) sc_l_is_right.nd rfl (.inl rfl) (pe_lst (pa_cons (pe_tup (pa_cons (pv 8) (pa_cons pe_bl pa_nil))) (pa_cons (pe_tup (pa_cons (pv 10) (pa_cons pe_bl pa_nil))) (pa_cons (pe_tup (pa_cons (pe_op op_fdivN (pe_op op_add (pv 8) (pv 10)) pe_int) (pa_cons pe_bl pa_nil))) (pa_cons (pe_tup (pa_cons (pe_ifExp (pt_cmpR op_notNo (pv 9) pe_non (nomark _)) (pe_op op_add (pv 9) pe_int) (pe_op op_add (pv 8) pe_int)) (pa_cons (pe_cmpR op_isNo (pv 9) pe_non (nomark _)) pa_nil))) pa_nil))))))
  (pss_cut (ps_if (pt_cmpR op_gt (pv 8) pe_int (nomark _)) (pss_one (ps_expr (pe_bm PySem.F.plainAttrs_list PySem.F.slot_list_append PySem.F.type_list_append mt_append (pv 11) (pa_cons (pe_tup (pa_cons (pe_op op_sub (pv 8) pe_int) (pa_cons pe_bl pa_nil))) pa_nil)))) pss_nil)
  (pss_cons (ps_for PassesOwn.never rfl (pi_list (pv 11)) (pg_tup (by rfl) (pgs_cons (pg_name (i := 12) sc_l_is_right.nd rfl (.inl rfl)) (pgs_cons (pg_name (i := 13) sc_l_is_right.nd rfl (.inl rfl)) pgs_nil))) (pss_one (ps_if (pt_cmpR op_ne (pe_callB cr_reprB (by rfl) T.n_repr (by decide +kernel) (pa_cons (pe_call F_is_answer (hr.mono (by decide)) (by rfl) T.g_is_answer T.k_is_answer T.b_is_answer .nil pass0 (pa_cons (pv 5) (pa_cons (pe_tup (pa_cons (pv 12) pa_nil)) pa_nil))) pa_nil)) (pe_callB cr_reprB (by rfl) T.n_repr (by decide +kernel) (pa_cons (pv 13) pa_nil)) (nomark _)) (pss_one (ps_ret pe_bl)) pss_nil)))
  (pss_one (ps_ret (pe_callG F_l_are_numbers_right (hr.mono (by decide)) gg (by rfl) T.g_l_are_numbers_right T.k_l_are_numbers_right T.b_l_are_numbers_right .nil pass0 (pa_cons (pv 1) (pa_cons (pv 4) (pa_cons (pv 3) (pa_cons (pv 6) pa_nil)))))))))))))))))), ?_⟩
    have l1 := R.l1
    have l16 := R.l16
    -- at
    refine ⟨fun σ' H' => ∃ (i : Nat) , σ' = [some (.ref d), some (.str wd.s), some (.ref a), some (.int (i : Int)), none, none, none, none, none, none, none, none, none, none] ∧ i < ns.length ∧ (wd = .products → 1 ≤ i) ∧ DkT (tabs T) G d H', ?_, ?_⟩
    · have b22 : (16 : Int) ≤ 10000000000000000000000 := by decide
      rcases hw with rfl | rfl
      · refine ⟨_, rfl, rfl, _, rfl, ite_yes (by decide +kernel) ?_⟩
        refine ⟨_, rfl, _, rfl, a, _, rfl, .inr (SqT.of (D.get ha)), G, d, (ns.length : Int), by rw [tz_len]; rfl, by omega, by omega, D, fun r H' r0 r1 D' => ⟨r.toNat, by rw [Int.toNat_of_nonneg r0]; rfl, by omega, (fun z => by cases z), D'⟩⟩
      · have l2 := R.l2 rfl
        refine ⟨_, rfl, rfl, _, rfl, ite_no (by decide +kernel) ?_⟩
        refine ⟨_, rfl, _, rfl, a, _, rfl, .inr (SqT.of (D.get ha)), _, _, rfl, rfl, G, d, (ns.length : Int) - 1, by rw [tz_len]; rfl, by omega, by omega, D, fun r H' r0 r1 D' => ⟨_, _, rfl, rfl, r.toNat + 1, ?_, by omega, fun _ => by omega, D'⟩⟩
        rw [show ((r.toNat + 1 : Nat) : Int) = 1 + r by omega]
        rfl
    rintro σ' H1 ⟨i, rfl, hi, hp, D1⟩
    have Gpi : Gp ns i := ⟨hi, l16, R.small⟩
    have hl := tz_len ns
    -- gapped
    refine ⟨fun σ' H' => ∃ (p : Addr) (G2 : Hp), σ' = [some (.ref d), some (.str wd.s), some (.ref a), some (.int (i : Int)), some (.ref p), none, none, none, none, none, none, none, none, none] ∧ Ex G G2 ∧ Fz G2 p (oVs (gp ns i)) ∧ DkT (tabs T) G2 d H', ?_, ?_⟩
    · have ha1 := D1.get ha
      refine ⟨_, rfl, _, rfl, i, rfl, a, _, rfl, ha1, fun p1 H2 c1 => ⟨small1, fun p2 o2 np2 hd2 => ?_⟩⟩
      have h1 : H2 p1 = some (.tup (cutV (tz ns) none (some (i : Int)))) := c1.at
      rw [cut_to] at h1
      have e2 := c1.ex
      have e3 := Ex.new (o := .frz o2 (.tup [.non])) np2
      refine cat_one (K := K) (H0 := H1) (e2.trans e3) (e3 _ _ h1) ⟨o2, upd_same, hd2⟩ (fresh_back e2 np2) (by rw [List.length_take]; omega) fun p3 H4 e4 n3 f3 => ?_
      have e14 := e2.trans (e3.trans e4)
      refine ⟨_, rfl, _, rfl, _, _, rfl, rfl, ((i + 1 : Nat) : Int), by exact congrArg V.int (by omega), a, _, rfl, e14 _ _ ha1, fun p4 H5 c5 => ?_⟩
      have h5 : H5 p4 = some (.tup (cutV (tz ns) (some ((i + 1 : Nat) : Int)) none)) := c5.at
      rw [cut_drop] at h5
      refine cat_two (K := K) (H0 := H1) (e14.trans c5.ex) (f3.more c5.ex) n3 (by simp) h5 (by rw [List.length_append, List.length_take, List.length_drop, List.length_singleton]; omega) fun p6 H6 e6 n6 f6 => ?_
      rw [gp_cat hi] at f6
      obtain ⟨o6, h6, d6⟩ := f6
      exact ⟨p6, _, rfl, D1.gex n6, ⟨o6, upd_same, d6⟩, D1.grow n6 (e14.trans (c5.ex.trans e6)) h6⟩
    rintro σ' H2 ⟨p, G2, rfl, e2, fz, D2⟩
    -- ask, due
    refine ⟨_, rfl, _, rfl, small2, fun k nk => ?_⟩
    have D3 := D2.made (o := .tup [.str wd.s, .ref p]) nk
    have e3 := D2.gex (o := .tup [.str wd.s, .ref p]) nk
    have hk3 : (upd G2 k (.tup [.str wd.s, .ref p])) k = some (.tup [.str wd.s, .ref p]) := upd_same
    generalize upd G2 k (.tup [.str wd.s, .ref p]) = G3 at D3 e3 hk3
    generalize upd H2 k (.tup [.str wd.s, .ref p]) = H3 at D3
    have e03 := e2.trans e3
    have R3 : Rt G3 k wd p ns i := mk_rt hk3 (fz.more e3) hw Gpi hp R.one
    have good := good_gp (a := p) hw hi
    have ha3 := e03 _ _ ha
    have lo_lt := loW_lt hw Gpi
    have rtOf : ∀ {G' H' : Hp}, Ex G3 G' → DkT (tabs T) G' d H' → Rt H' k wd p ns i := fun e D => (R3.more e).more D.k.ex
    have lens : ∀ x : Nat, x < 2 ^ 1900 → Row (fill (gp ns i) x) := fun x hx => row_set Gpi hx
    have f2 : ∀ {t : Addr} {H' : Hp}, H' t = some (.tup [.int ((loW wd ns i : Nat) : Int), oV (hiW wd ns i)]) → ∀ Q', Q' (.str (PyData.tuple [.int ((loW wd ns i : Nat) : Int), oD (hiW wd ns i)]).shown) H' → rReprY [.ref t] H' Q' := fun ht Q' q' =>
      r_reprYF (.tup (.inl ht) (.cons (.int _) (.cons (oD_df _) .nil))) (.inr ⟨_, rfl⟩) (fineP (to1900 lo_lt) fun n hn => to1900 (hiW_lt hw Gpi n hn)) q'
    refine ⟨_, rfl, _, rfl, _, rfl, wd, p, ns, i, rfl, hw, D3.getR (fz.more e3).rd, Gpi, hp, ?_⟩
    unfold RetEx
    cases hf : fitB wd (ns.set i (loW wd ns i)) with
    | false =>
      rw [if_neg (by exact Bool.false_ne_true)]
      intro H4 e4
      have D4 := D3.more e4
      refine ⟨_, _, rfl, ?_⟩
      refine ⟨fun σ' H' => ∃ G5, σ' = [some (.ref d), some (.str wd.s), some (.ref a), some (.int (i : Int)), some (.ref p), some (.ref k), some .non, some .non, none, none, none, none, none, none] ∧ Ex G3 G5 ∧ DkT (tabs T) G5 d H', ?_, ?_⟩
      · refine evd_draw (T := tabs T) (G := G3) (d := d) (m := 2) (i := 0) rfl D4 (by decide) (by decide) _ fun v G5 H5 e5 D5 ⟨z, ez, _, _⟩ => ?_
        subst ez
        have re : ∀ H', Ek (tabs T) H5 H' → DkT (tabs T) G5 d H' := fun H' e => D5.moreK e
        refine ⟨rfl, _, rfl, ite2 (fun _ => ?_) (fun _ => ?_)⟩
        · refine ⟨_, rfl, k, wd, rfl, D5.t, .inl ⟨p, ns, i, rtOf e5 D5, ?_⟩⟩
          unfold RetE
          rw [hf, if_neg (by exact Bool.false_ne_true)]
          exact fun H' e => ⟨G5, rfl, e5, D5.moreK e⟩
        · refine ⟨_, rfl, k, wd, rfl, D5.t, .inl ⟨p, ns, i, rtOf e5 D5, ?_⟩⟩
          unfold RetE
          rw [hf, if_neg (by exact Bool.false_ne_true)]
          exact fun H' e => ⟨G5, rfl, e5, D5.moreK e⟩
      rintro σ' H5 ⟨G5, rfl, e5, D5⟩
      refine ⟨_, rfl, ?_⟩
      refine r_nil ?_
      try dsimp only
      refine r_reprYF .non (.inl rfl) fine_none ?_
      refine ⟨_, rfl, ?_⟩
      refine r_nil ?_
      try dsimp only
      refine r_reprYF .non (.inl rfl) fine_none ?_
      refine ⟨rfl, _, rfl, ite_no (by rw [decide_eq_true rfl]; rfl) ?_⟩
      dsimp only [tNext]
      refine ⟨_, rfl, rfl, _, rfl, ite_yes rfl ?_⟩
      have no := no_fit hw hi hp hf
      have ans : ∀ (x : Nat) (G' H' : Hp) (n : Addr) (Q' : VK), x < 2 ^ 1900 → Ex G3 G' → DkT (tabs T) G' d H' → H' n = none → (∀ H'', Ek (tabs T) H' H'' → Q' (.bl false) H'') → sp_fit (tabs T) [.ref k, .ref n] (upd H' n (.tup [.int (x : Int)])) Q' (fun _ _ _ => False) := fun x G' H' n Q' hx e D' nn q' =>
        ⟨k, n, wd, p, gp ns i, x, rfl, ((rtOf e D').more (Ex.new nn)).ask, good, upd_same, lens x hx, D'.t.ext (Ex.new nn), fun H'' e'' => by
          rw [fill_gp, no x]
          exact q' H'' ((Ek.new nn).trans e'')⟩
      have ix : (tz ns)[i]? = some (.int ((ns.getD i 0 : Nat) : Int)) := tz_ix hi
      refine ⟨_, rfl, _, rfl, _, rfl, a, _, _, _, rfl, rfl, SqT.of (D5.get (e5 _ _ ha3)), atI_nat ix, small1, fun n1 nn1 => ?_⟩
      refine ans _ G5 H5 n1 _ (p100 (R.small i)) e5 D5 nn1 fun H6 e6 => ⟨_, _, rfl, rfl, _, rfl, ite_yes (decide_eq_true rfl) ?_⟩
      have D6 := D5.moreK e6
      refine ⟨_, rfl, ?_⟩
      refine evd_draw (T := tabs T) (G := G5) (d := d) (m := 12) (i := 0) rfl D6 (by decide) (by decide) _ fun v G7 H7 e7 D7 ⟨z, ez, _, hz⟩ => ?_
      subst ez
      refine ⟨small1, fun n2 nn2 => ?_⟩
      refine ans _ G7 H7 n2 _ (Nat.lt_of_le_of_lt hz (Nat.lt_of_lt_of_le (by decide : 12 - 1 < 2 ^ 4) (Nat.pow_le_pow_right (by decide) (by decide)))) (e5.trans e7) D7 nn2 fun H8 e8 => ⟨_, _, rfl, rfl, ?_⟩
      exact q_bl (Q := Q) (decide_eq_true rfl) (q G7 H8 (e03.trans (e5.trans e7)) (D7.moreK e8))
    | true =>
      rw [if_pos rfl]
      intro t H4 nt e4 ht
      have D4 := D3.grow nt e4 ht
      have eG4 : Ex G3 (upd G3 t (.tup [.int ((loW wd ns i : Nat) : Int), oV (hiW wd ns i)])) := D3.gex nt
      have ht4 : (upd G3 t (.tup [.int ((loW wd ns i : Nat) : Int), oV (hiW wd ns i)])) t = some (.tup [.int ((loW wd ns i : Nat) : Int), oV (hiW wd ns i)]) := upd_same
      generalize upd G3 t (.tup [.int ((loW wd ns i : Nat) : Int), oV (hiW wd ns i)]) = G4 at D4 eG4 ht4
      refine ⟨_, _, rfl, ?_⟩
      -- told
      refine ⟨fun σ' H' => ∃ t2 G5, σ' = [some (.ref d), some (.str wd.s), some (.ref a), some (.int (i : Int)), some (.ref p), some (.ref k), some (.ref t), some (.ref t2), none, none, none, none, none, none] ∧ Ex G4 G5 ∧ DkT (tabs T) G5 d H' ∧ H' t2 = some (.tup [.int ((loW wd ns i : Nat) : Int), oV (hiW wd ns i)]), ?_, ?_⟩
      · refine evd_draw (T := tabs T) (G := G4) (d := d) (m := 2) (i := 0) rfl D4 (by decide) (by decide) _ fun v G5 H5 e5 D5 ⟨z, ez, _, _⟩ => ?_
        subst ez
        refine ⟨rfl, _, rfl, ite2 (fun _ => ?_) (fun _ => ?_)⟩
        · refine ⟨_, rfl, k, wd, rfl, D5.t, .inl ⟨p, ns, i, rtOf (eG4.trans e5) D5, ?_⟩⟩
          unfold RetE
          rw [hf, if_pos rfl]
          exact fun t2 H' e h2 => ⟨t2, G5, rfl, e5, D5.moreK e, h2⟩
        · refine ⟨_, rfl, k, wd, rfl, D5.t, .inl ⟨p, ns, i, rtOf (eG4.trans e5) D5, ?_⟩⟩
          unfold RetE
          rw [hf, if_pos rfl]
          exact fun t2 H' e h2 => ⟨t2, G5, rfl, e5, D5.moreK e, h2⟩
      rintro σ' H5 ⟨t2, G5, rfl, e5, D5, ht2⟩
      have ht5 := D5.get (e5 _ _ ht4)
      refine ⟨_, rfl, ?_⟩
      refine r_nil ?_
      try dsimp only
      refine f2 ht2 _ ?_
      refine ⟨_, rfl, ?_⟩
      refine r_nil ?_
      try dsimp only
      refine f2 ht5 _ ?_
      refine ⟨rfl, _, rfl, ite_no (by rw [decide_eq_true rfl]; rfl) ?_⟩
      dsimp only [tNext]
      refine ⟨_, rfl, rfl, _, rfl, ite_no (decide_eq_false fun z => by cases z) ?_⟩
      dsimp only [tNext]
      refine ⟨_, rfl, t, _, rfl, SqT.of ht5, rfl, _, _, rfl, _, _, rfl, rfl, ?_⟩
      have fit := fit_some hw hi hp hf
      have dl := (due_iff hw hi hp).mp hf
      have hgt : ∀ m, hiW wd ns i = some m → loW wd ns i ≤ m := dl.2
      have hlt := hiW_lt hw Gpi
      have big6 : (2 : Nat) ^ 1850 + 10000000 < 2 ^ 1860 := by
        have e : (2 : Nat) ^ 1860 = 1024 * 2 ^ 1850 := Nat.pow_add 2 10 1850
        have e2 : (2 : Nat) ^ 30 ≤ 2 ^ 1850 := Nat.pow_le_pow_right (by decide) (by decide)
        have e3 : (2 : Nat) ^ 30 = 1073741824 := by decide
        rw [e]
        generalize 2 ^ 1850 = z at *
        omega
      have b60 : (2 : Nat) ^ 1860 + 5 < 2 ^ 1900 := by
        have e : (2 : Nat) ^ 1900 = 2 ^ 40 * 2 ^ 1860 := Nat.pow_add 2 40 1860
        have e3 : (2 : Nat) ^ 40 = 1099511627776 := by decide
        have e2 : 1 ≤ (2 : Nat) ^ 1860 := Nat.one_le_two_pow
        rw [e, e3]
        generalize 2 ^ 1860 = z at *
        omega
      generalize hlo : loW wd ns i = lo at *
      generalize hhi : hiW wd ns i = hi' at *
      -- top
      refine ⟨fun σ' H' => ∃ (tp : Nat) (G6 : Hp), σ' = [some (.ref d), some (.str wd.s), some (.ref a), some (.int (i : Int)), some (.ref p), some (.ref k), some (.ref t), some (.ref t2), some (.int (lo : Int)), some (oV hi'), some (.int (tp : Int)), none, none, none] ∧ lo ≤ tp ∧ (∀ m, hi' = some m → tp ≤ m) ∧ tp < 2 ^ 1860 ∧ Ex G5 G6 ∧ DkT (tabs T) G6 d H', ?_, ?_⟩
      · cases hi' with
        | none =>
          refine ⟨_, rfl, rfl, _, rfl, ite_yes (decide_eq_true rfl) ?_⟩
          refine ⟨_, rfl, _, _, rfl, rfl, ?_⟩
          refine evd_drawP (T := tabs T) (G := G5) (d := d) (a := 10) (b := 6) (m := 1000000) (i := 0) rfl D5 ⟨by decide, by decide, by decide⟩ (by decide +kernel) (by decide) (by decide) _ fun v G6 H6 e6 D6 ⟨z, ez, _, hz⟩ => ?_
          subst ez
          refine ⟨_, _, rfl, rfl, lo + 1 + z, G6, by rw [Int.natCast_add, Int.natCast_add]; rfl, by omega, (fun m z => by cases z), by omega, e6, D6⟩
        | some m =>
          refine ⟨_, rfl, rfl, _, rfl, ite_no (decide_eq_false fun z => by cases z) ?_⟩
          have h1 := hlt m rfl
          exact ⟨_, rfl, m, G5, rfl, hgt m rfl, (fun m' z => by cases z; exact Nat.le_refl _), by omega, Ex.refl _, D5⟩
      rintro σ' H6 ⟨tp, G6, rfl, tp1, tp2, tp3, e6, D6⟩
      have half : V.int (((lo : Int) + (tp : Int)).fdiv 2) = V.int (((lo + tp) / 2 : Nat) : Int) := by
        rw [Int.fdiv_eq_ediv_of_nonneg _ (by decide)]
        rfl
      -- some
      refine ⟨fun σ' H' => ∃ S, σ' = [some (.ref d), some (.str wd.s), some (.ref a), some (.int (i : Int)), some (.ref p), some (.ref k), some (.ref t), some (.ref t2), some (.int (lo : Int)), some (oV hi'), some (.int (tp : Int)), some (.ref S), none, none] ∧ Ex H6 H' ∧ H6 S = none ∧ Items wd ns i 4 H' S, ?_, ?_⟩
      · refine ⟨_, rfl, small2, fun t1 n1 => ⟨_, rfl, small2, fun t2' n2 => ⟨_, rfl, _, rfl, _, _, rfl, rfl, _, _, rfl, rfl, ⟨by decide, by decide⟩, ?_⟩⟩⟩
        simp only [half]
        refine ⟨small2, fun t3 n3 => ?_⟩
        have i1 : Item wd ns i (upd H6 t1 (.tup [.int (lo : Int), .bl true])) t1 := ⟨lo, true, upd_same, by omega, (fit lo).mpr ⟨Nat.le_refl _, hgt⟩⟩
        have i2 : Item wd ns i (upd (upd H6 t1 (.tup [.int (lo : Int), .bl true])) t2' (.tup [.int (tp : Int), .bl true])) t2' := ⟨tp, true, upd_same, by omega, (fit tp).mpr ⟨tp1, tp2⟩⟩
        have i3 : Item wd ns i (upd (upd (upd H6 t1 (.tup [.int (lo : Int), .bl true])) t2' (.tup [.int (tp : Int), .bl true])) t3 (.tup [.int (((lo + tp) / 2 : Nat) : Int), .bl true])) t3 := ⟨(lo + tp) / 2, true, upd_same, by omega, (fit _).mpr ⟨by omega, fun m hm => by have := tp2 m hm; omega⟩⟩
        have e1 := Ex.new (o := .tup [.int (lo : Int), .bl true]) n1
        have e2' := Ex.new (o := .tup [.int (tp : Int), .bl true]) n2
        have e3' := Ex.new (o := .tup [.int (((lo + tp) / 2 : Nat) : Int), .bl true]) n3
        cases hi' with
        | none =>
          refine ⟨_, rfl, rfl, _, rfl, ite_no rfl ?_⟩
          refine ⟨_, rfl, _, _, rfl, rfl, _, rfl, rfl, small2, fun t4 n4 => ⟨by show 4 ≤ sizeLine; decide, fun S nS => ?_⟩⟩
          have e4' := Ex.new (o := .tup [.int ((lo : Int) + 1), .bl true]) n4
          have e14 := e1.trans (e2'.trans (e3'.trans e4'))
          refine ⟨S, rfl, e14.trans (Ex.new nS), fresh_back e14 nS, items4 (H0 := H6) i1 i2 i3 ⟨lo + 1, true, ?_, by omega, (fit _).mpr ⟨by omega, fun m z => by cases z⟩⟩ e2' e3' e4' nS⟩
          exact upd_same
        | some m =>
          have h1 := hlt m rfl
          refine ⟨_, rfl, rfl, _, rfl, ite_yes rfl ?_⟩
          refine ⟨_, rfl, _, _, rfl, rfl, _, rfl, rfl, small2, fun t4 n4 => ⟨by show 4 ≤ sizeLine; decide, fun S nS => ?_⟩⟩
          have e4' := Ex.new (o := .tup [.int ((m : Int) + 1), .bl false]) n4
          have e14 := e1.trans (e2'.trans (e3'.trans e4'))
          refine ⟨S, rfl, e14.trans (Ex.new nS), fresh_back e14 nS, items4 (H0 := H6) i1 i2 i3 ⟨m + 1, false, ?_, by omega, ?_⟩ e2' e3' e4' nS⟩
          · exact upd_same
          · cases hx : fitB wd (ns.set i (m + 1)) with
            | false => rfl
            | true =>
              have := ((fit (m + 1)).mp hx).2 m rfl
              omega
      rintro σ' H7 ⟨S, rfl, e7, nS, it7⟩
      -- below the least
      refine ⟨fun σ' H' => σ' = [some (.ref d), some (.str wd.s), some (.ref a), some (.int (i : Int)), some (.ref p), some (.ref k), some (.ref t), some (.ref t2), some (.int (lo : Int)), some (oV hi'), some (.int (tp : Int)), some (.ref S), none, none] ∧ Ex H6 H' ∧ Items wd ns i 5 H' S, ?_, ?_⟩
      · refine ⟨_, rfl, _, _, rfl, rfl, _, rfl, ite2 (fun e => ?_) (fun e => ?_)⟩
        · have l0 : 0 < lo := by have := of_decide_eq_true e; omega
          obtain ⟨ts, hS, hts, hit⟩ := it7
          refine ⟨_, rfl, .inl ⟨rfl, _, SqL.of hS⟩, _, rfl, _, _, rfl, rfl, small2, fun t5 n5 => ?_⟩
          have e5' := Ex.new (o := .tup [.int ((lo : Int) - 1), .bl false]) n5
          have hS5 := e5' _ _ hS
          refine ⟨S, _, _, rfl, rfl, hS5, by rw [List.length_map]; exact small1000 (by omega), rfl, Ex.mut (e7.trans e5') nS, ts ++ [t5], by rw [upd_same, List.map_append]; rfl, by rw [List.length_append, List.length_singleton]; omega, fun u hu => ?_⟩
          have it : Item wd ns i (upd H7 t5 (.tup [.int ((lo : Int) - 1), .bl false])) u := by
            rcases List.mem_append.mp hu with hu | hu
            · exact Item.more (hit u hu) e5'
            · rw [List.mem_singleton.mp hu]
              refine ⟨lo - 1, false, ?_, by omega, ?_⟩
              · rw [upd_same, show ((lo - 1 : Nat) : Int) = (lo : Int) - 1 by omega]
              · cases hx : fitB wd (ns.set i (lo - 1)) with
                | false => rfl
                | true =>
                  have := ((fit (lo - 1)).mp hx).1
                  omega
          obtain ⟨x, b, h1, h2⟩ := it
          refine ⟨x, b, ?_, h2⟩
          rw [upd_ne (fun z => by rw [z, hS5] at h1; cases h1)]
          exact h1
        · obtain ⟨ts, hS, hts, hit⟩ := it7
          exact ⟨rfl, e7, ts, hS, by omega, hit⟩
      rintro σ' H8 ⟨rfl, e8, ts, hS8, hts, hit⟩
      have D8 := D6.more e8
      have Rt8 : Rt H8 k wd p ns i := rtOf (eG4.trans (e5.trans e6)) D8
      refine ⟨_, rfl, S, rfl, ⟨_, SqL.of hS8⟩, ?_⟩
      refine for_list (a := S) (xs := ts.map V.ref) (fun j σ' H' => ∃ y12 y13, σ' = [some (.ref d), some (.str wd.s), some (.ref a), some (.int (i : Int)), some (.ref p), some (.ref k), some (.ref t), some (.ref t2), some (.int (lo : Int)), some (oV hi'), some (.int (tp : Int)), some (.ref S), y12, y13] ∧ Ek (tabs T) H8 H') ⟨none, none, rfl, Ek.refl _⟩ ?_ ?_ ?_
      · rintro j σ' H' _ ⟨y12, y13, rfl, e⟩
        exact SqL.of (e.get hS8)
      · rintro j x σ' H' hx ⟨y12, y13, rfl, e⟩
        rw [List.getElem?_map] at hx
        obtain ⟨u, hu, rfl⟩ : ∃ u, ts[j]? = some u ∧ x = .ref u := by
          cases z : ts[j]? with
          | none => rw [z] at hx; cases hx
          | some u => rw [z] at hx; cases hx; exact ⟨u, rfl, rfl⟩
        obtain ⟨x, b, h1, h2, h3⟩ := hit u (List.mem_of_getElem? hu)
        refine ⟨u, _, rfl, SqT.of (e.get h1), rfl, _, _, rfl, _, _, rfl, rfl, ?_⟩
        refine ⟨_, rfl, _, rfl, small1, fun n nn => ?_⟩
        refine ⟨k, n, wd, p, gp ns i, x, rfl, ((Rt8.moreK e).more (Ex.new nn)).ask, good, upd_same, lens x h2, (e.t D8.t).ext (Ex.new nn), fun H9 e9 => ?_⟩
        rw [fill_gp, h3]
        refine ⟨b, rfl, _, rfl, b, rfl, rfl, _, rfl, ite_no (by rw [decide_eq_true rfl]; rfl) ?_⟩
        exact ⟨_, _, rfl, (e.ex (Ex.new nn)).trans e9⟩
      · rintro σ' H9 ⟨y12, y13, rfl, e9⟩
        have D9 := D8.moreK e9
        have Rt9 := Rt8.moreK e9
        have ht9 := D9.get (e6 _ _ (e5 _ _ ht4))
        obtain ⟨o9, h9, _⟩ := Rt9.fz
        subst hlo hhi
        exact ⟨_, rfl, _, rfl, _, rfl, _, rfl, wd, p, ns, i, t, rfl, hw, .inr ⟨o9, h9⟩, Gpi, hp, dl.1, ht9, D9.t, fun H10 e10 => q G6 H10 (e03.trans (eG4.trans (e5.trans e6))) (D9.moreK e10)⟩
end
end K88

/-! A call under try: what it hands out finds the names as they stood. -/
namespace Hr
open PySem PySem.Spec PyProof.Rows L2
def PassesAt (CX : CXT) (X : Cx) (E : XK) (σ : L2.St) : Prop := ∀ (pins : List (Addr × Obj)) (H : Hp) (s : Shared) (e : Value) (s' : Shared), Inv X pins σ H s → CX X.stack H s E e s' → X.xe e s'
section
variable {X : Cx} {CX : CXT} {k : Nat} {f C : Addr} {fd : FuncData} {ps : List Str} {sp : Sp} {dvs : List V} {ds : List Value} {x m : Str} {p pos apos : Pos} {e o : Expr} {es : List Expr} {ta : TE} {t : TA}
theorem run_fnS {E : XK} {pins : List (Addr × Obj)} {σ : L2.St} {H : Hp} {s : Shared} {Q : VK} {us : List Value} {vs : List V} (F : FnOk X.prog X.w X.K X.mg X.base CX k f fd ps sp) (hr : Room k X.A) (hb : Binds X.K fd ps ds) (hd : Vals dvs ds) (hx : PassesAt CX X E σ)
    (I : Inv X pins σ H s) (r : Vals vs us) (h : sp (vs ++ dvs) H Q E) : wpAny (model X.prog X.w) X.A (call (.ref f) us) (EP X pins σ Q) X.xe s := by
  have r2 : Vals (vs ++ dvs) (us ++ ds) := r.append hd
  have hl : (us ++ ds).length = ps.length := by rw [← r2.length]; exact F.len _ _ _ _ h
  refine wpAny_call (codeAny_mono (F.run X.A X.stack s H ⟨us, []⟩ (us ++ ds) (vs ++ dvs) Q E hr I.env0 (hb s us I.kIn hl) r2 h) fun r s' hq => ?_)
  cases r with
  | error e => exact hx pins H s e s' I hq
  | ok fl =>
    cases fl with
    | ret u => exact I.after hq
    | next => exact False.elim hq
    | brk => exact False.elim hq
    | cont => exact False.elim hq
def tCallS (CX : CXT) (X : Cx) (sp : Sp) (dvs : List V) (t : TA) : TE := fun σ H Q => ∃ E : XK, PassesAt CX X E σ ∧ tCall sp dvs E t σ H Q
theorem pe_callS (F : FnOk X.prog X.w X.K X.mg X.base CX k f fd ps sp) (hr : Room k X.A) (hg : Gl X x) (hm : X.mg x = some (.ref f)) (hk : PySem.W.keepIn X.K (.ref f) = true) (hb : Binds X.K fd ps ds) (hd : Vals dvs ds)
    (ha : PA X (e :: es) t) (hdb : (x == ("__debug__" : Str)) = false := by decide) (he : starEach (e :: es) X.env = (false, eval e X.env) :: starEach es X.env := by rfl) (hpl : (backTo pos (starEach es X.env)).any (·.1) = false := by rfl) :
    PE X (.Call (.Name x p) (e :: es) [] pos) (tCallS CX X sp dvs t) := by
  refine ⟨fun pins s σ H Q I h => ?_⟩
  obtain ⟨E, hx, h⟩ := h
  refine wpAny_Call_Name_kw (ld_glob I hg hm ?_ hdb)
  refine PySem.W.callWith_K (h₀ := X.base) I.ok.mod.kin hk (thn (ha.run pos pins s σ H _ I h) fun us s1 ⟨vs, H1, I1, r, q⟩ => ⟨I1.kIn, ?_⟩) he hpl
  exact run_fnS F hr hb hd hx I1 r q
theorem passesAt {W : WX} {E : XK} {σ : L2.St} (tk : Takes X W) (hW : ∀ cls d H', E cls d H' → W cls d σ H') : PassesAt (L2.CX X.prog X.w) X E σ :=
  fun _ _ _ e s' I c => tk e s' (XE.of_call I hW c)
end
end Hr

set_option exponentiation.threshold 3000
namespace K88
open PySem PySem.Spec PyProof.Rows L2 Hr HrM Evl HrE_thing LamX RZ
section
variable {P : Program} {w : World} {K : PySem.W.Frag} {mg : Str → Option Value} {base : Heap}
def sp_ref (TL : List (Addr × Str)) : Sp := fun vs H Q _ => ∃ (k : Addr) (wd : Wd) (rs : List (Addr × List (Option Nat))) (ds : List PyData), vs = [.ref k] ∧ AskAt H k wd rs ∧ (isSP wd → 1 < gapsN rs) ∧ Df H (.ref k) (.tuple ds) ∧ Fine (.tuple ds) 8000 ∧ Tabs TL H ∧ ∀ H', Q (.bl true) H'
theorem ok_is_refused (T : Txt K mg) (TB : TabB base mg T.c_greatest_top T.P_greatest_top) {es : Array DictEntry} {n : Nat} (DA : KDict K w T.A_ASKS es n) : FnG P w K mg base CX0 11 T.f_l_is_refused T.d_l_is_refused ["ask"] (sp_ref (tabs T)) := by
  have F_ends_of := ok_ends_of (P := P) (w := w) (base := base) T TB DA
  refine okG T.U_l_is_refused sc_l_is_refused (fun vs H Q E h => ?_) (fun cdv A outer s H vs Q E hr gg h => ?_)
  · obtain ⟨_, _, _, _, rfl, _⟩ := h
    rfl
  · obtain ⟨k, wd, rs, ds, rfl, A9, hg, hd, hf, hT, q⟩ := h
    refine ⟨_, pss_cons (ps_try_named (i := 1) (n := "e") (W0 := fun _ _ _ _ => False)
      (tb := fun W D σ H => ∃ E : XK, (∀ cls d H', E cls d H' → W cls d σ H') ∧ σ[0]? = some (some (.ref k)) ∧ sp_ends_of (tabs T) T.C_BadAsk [.ref k] H (fun _ H1 => D.nx σ H1) E)
      rfl rfl sc_l_is_refused.nd rfl rfl LamX.takes0 (fun W pn xe tk _ => ?_)
      (.cons ⟨rfl, by decide, .inl T.x_BadAsk.gC⟩ (fun a ob cls d pn hz hf => pss_one (ps_ret (pe_and (pe_cmpR op_eq (pe_callB (cr_reprY gg hr.units) (by rfl) T.n_repr (by decide +kernel) (pa_cons (pe_getEx T.x_BadAsk hz hf (pv 1)) pa_nil)) (pe_callB (cr_reprY gg hr.units) (by rfl) T.n_repr (by decide +kernel) (pa_cons (pv 0) pa_nil)) (nomark _)) (pe_one (pe_callB (call_isX T.o_BadAsk hz hf) (by rfl) T.n_isinstance (by decide +kernel) (pa_cons (pv 1) (pa_cons (pe_glob (v := .ref T.C_CountError) (by rfl) T.g_CountError rfl) pa_nil))))))) .nil)) (pss_one (ps_ret pe_bl)), ?_⟩
    · refine ⟨fun pins s' σ H' D I h' => ?_⟩
      obtain ⟨E', hW, h0, h1⟩ := h'
      exact PSs.run (pss_one (ps_expr (pe_callS (sp := sp_ends_of (tabs T) T.C_BadAsk) F_ends_of (hr.mono (by decide)) (by rfl) T.g_ends_of T.k_ends_of T.b_ends_of .nil (pa_cons (pv 0) pa_nil)))) pins s' σ H' D I ⟨E', passesAt tk hW, _, h0, h1⟩
    · refine ⟨fun cls d H' => ∃ dd, cls = .ref T.C_BadAsk ∧ d = some dd ∧ Ex H H' ∧ H' dd = some (.xd [("thing", .ref k)]), ?_, rfl, k, wd, rfl, hT, .inr ⟨rs, A9, hg, fun dd H2 nd e2 hx => ⟨dd, rfl, rfl, e2, hx⟩⟩⟩
      rintro cls d H' ⟨dd, rfl, rfl, e2, hx⟩
      refine ⟨true, T.o_BadAsk.toOwnC.exm T.o_BadAsk.me, fun _ a na => ?_, fun e => (nomatch e)⟩
      have hd2 := hd.moreN (.of e2)
      refine ⟨_, rfl, rfl, rfl, dd, .ref k, rfl, hx, ?_⟩
      refine r_nil ?_
      try dsimp only
      refine r_reprYF hd2 (.inr ⟨_, rfl⟩) hf ?_
      refine ⟨_, rfl, ?_⟩
      refine r_nil ?_
      try dsimp only
      refine r_reprYF hd2 (.inr ⟨_, rfl⟩) hf ?_
      refine ⟨rfl, _, rfl, ite_yes (decide_eq_true rfl) ?_⟩
      exact ⟨_, rfl, T.C_CountError |> V.ref, .ref T.C_CountError, true, dd, _, rfl, rfl, fun u r => r, T.o_CountError.kit T.u_BadAsk_CountError, rfl, hx, q _⟩
end
end K88

set_option exponentiation.threshold 3000
namespace K88
open PySem PySem.Spec PyProof.Rows L2 Hr HrM Evl HrE_thing LamX RZ
def AskV (G : Hp) (v : V) : Prop := ∃ (k : Addr) (wd : Wd) (rs : List (Addr × List (Option Nat))) (ds : List PyData), v = .ref k ∧ AskAt G k wd rs ∧ (isSP wd → 1 < gapsN rs) ∧ Df G (.ref k) (.tuple ds) ∧ Fine (.tuple ds) 8000
theorem ask_more (G G' : Hp) (v : V) (h : AskV G v) (e : Ex G G') : AskV G' v := let ⟨k, wd, rs, ds, a, b, c, f, g⟩ := h; ⟨k, wd, rs, ds, a, b.more e, c, f.moreN (.of e), g⟩
theorem oDs_df {H : Hp} : ∀ xs : List (Option Nat), DfA H (oVs xs) (xs.map oD)
  | [] => .nil
  | o :: xs => .cons (oD_df o) (oDs_df xs)
section
variable {T : List (Addr × Str)} {d : Addr} {G H : Hp} {σ : L2.St}
theorem evd_ask1 (wd : Wd) (xs : List (Option Nat)) {tis : TA} (D : DkT T G d H) (ht : ∀ H Q, Q (oVs xs) H → tis σ H Q) (h1 : 1 ≤ xs.length) (h16 : xs.length ≤ 16) (hw : wd ≠ .coloured ∧ wd ≠ .holes) (hg : isSP wd → 1 < gaps xs) (hp : wd = .products → xs[0]? = some (some 1)) (hf : Fine (.tuple [.str wd.s, .tuple (xs.map oD)]) 8000) :
    EvD T d (tTup (tCons (tC (.str wd.s)) (tCons (tTup tis) tNil))) σ G H AskV := fun Q q => by
  refine ht H _ ⟨by rw [oVs_len]; exact Nat.le_trans h16 (by decide), fun p np => ⟨small2, fun k nk => ?_⟩⟩
  have D1 := D.made (o := .tup (oVs xs)) np
  have D2 := D1.made (o := .tup [.str wd.s, .ref p]) nk
  have e1 := D.gex (o := .tup (oVs xs)) np
  have e2 := D1.gex (o := .tup [.str wd.s, .ref p]) nk
  have hp2 := e2 _ _ (upd_same (H := G) (a := p) (o := .tup (oVs xs)))
  refine q _ _ _ (e1.trans e2) D2 ⟨k, wd, [(p, xs)], _, rfl, ⟨.inl ⟨hw.1, upd_same⟩, fun r hr => ?_, fun _ => ⟨_, rfl⟩, fun z => absurd z hw.2, fun z r hr => ?_⟩, fun s => ?_, .tup (.inl upd_same) (.cons (.str _) (.cons (.tup (.inl hp2) (oDs_df xs)) .nil)), hf⟩
  · rw [List.mem_singleton.mp hr]
    exact ⟨.inl hp2, h1, h16⟩
  · rw [List.mem_singleton.mp hr]
    exact hp z
  · unfold gapsN
    simpa using hg s
theorem evd_ask2 (xs ys : List (Option Nat)) {tis tjs : TA} (D : DkT T G d H) (ht : ∀ H Q, Q (oVs xs) H → tis σ H Q) (ht2 : ∀ H Q, Q (oVs ys) H → tjs σ H Q) (h1 : 1 ≤ xs.length) (h16 : xs.length ≤ 16) (h1' : 1 ≤ ys.length) (h16' : ys.length ≤ 16) (hf : Fine (.tuple [.str Wd.holes.s, .tuple (xs.map oD), .tuple (ys.map oD)]) 8000) :
    EvD T d (tTup (tCons (tC (.str Wd.holes.s)) (tCons (tTup tis) (tCons (tTup tjs) tNil)))) σ G H AskV := fun Q q => by
  refine ht H _ ⟨by rw [oVs_len]; exact Nat.le_trans h16 (by decide), fun p np => ht2 _ _ ⟨by rw [oVs_len]; exact Nat.le_trans h16' (by decide), fun r nr => ⟨small3, fun k nk => ?_⟩⟩⟩
  have D1 := D.made (o := .tup (oVs xs)) np
  have D2 := D1.made (o := .tup (oVs ys)) nr
  have D3 := D2.made (o := .tup [.str Wd.holes.s, .ref p, .ref r]) nk
  have e1 := D.gex (o := .tup (oVs xs)) np
  have e2 := D1.gex (o := .tup (oVs ys)) nr
  have e3 := D2.gex (o := .tup [.str Wd.holes.s, .ref p, .ref r]) nk
  have hp3 := e3 _ _ (e2 _ _ (upd_same (H := G) (a := p) (o := .tup (oVs xs))))
  have hr3 := e3 _ _ (upd_same (H := upd G p (.tup (oVs xs))) (a := r) (o := .tup (oVs ys)))
  refine q _ _ _ (e1.trans (e2.trans e3)) D3 ⟨k, .holes, [(p, xs), (r, ys)], _, rfl, ⟨.inl ⟨(fun z => by cases z), upd_same⟩, fun u hu => ?_, fun z => absurd rfl z, fun _ => ⟨_, _, rfl⟩, fun z => by cases z⟩, fun s => ?_, .tup (.inl upd_same) (.cons (.str _) (.cons (.tup (.inl hp3) (oDs_df xs)) (.cons (.tup (.inl hr3) (oDs_df ys)) .nil))), hf⟩
  · rcases List.mem_cons.mp hu with rfl | hu
    · exact ⟨.inl hp3, h1, h16⟩
    · rw [List.mem_singleton.mp hu]
      exact ⟨.inl hr3, h1', h16'⟩
  · rcases s with s | s <;> cases s
theorem evd_ask3 (r : Int) (xs : List (Option Nat)) {tis : TA} (D : DkT T G d H) (ht : ∀ H Q, Q (oVs xs) H → tis σ H Q) (h1 : 1 ≤ xs.length) (h16 : xs.length ≤ 16) (hf : Fine (.tuple [.str Wd.coloured.s, .int r, .tuple (xs.map oD)]) 8000) :
    EvD T d (tTup (tCons (tC (.str Wd.coloured.s)) (tCons (tC (.int r)) (tCons (tTup tis) tNil)))) σ G H AskV := fun Q q => by
  refine ht H _ ⟨by rw [oVs_len]; exact Nat.le_trans h16 (by decide), fun p np => ⟨small3, fun k nk => ?_⟩⟩
  have D1 := D.made (o := .tup (oVs xs)) np
  have D2 := D1.made (o := .tup [.str Wd.coloured.s, .int r, .ref p]) nk
  have e1 := D.gex (o := .tup (oVs xs)) np
  have e2 := D1.gex (o := .tup [.str Wd.coloured.s, .int r, .ref p]) nk
  have hp2 := e2 _ _ (upd_same (H := G) (a := p) (o := .tup (oVs xs)))
  refine q _ _ _ (e1.trans e2) D2 ⟨k, .coloured, [(p, xs)], _, rfl, ⟨.inr ⟨rfl, r, upd_same⟩, fun u hu => ?_, fun _ => ⟨_, rfl⟩, (fun z => by cases z), fun z => by cases z⟩, fun s => ?_, .tup (.inl upd_same) (.cons (.str _) (.cons (.int _) (.cons (.tup (.inl hp2) (oDs_df xs)) .nil))), hf⟩
  · rw [List.mem_singleton.mp hu]
    exact ⟨.inl hp2, h1, h16⟩
  · rcases s with s | s <;> cases s
end
theorem RowOk.inn {wd : Wd} {ns : List Nat} (r : RowOk wd ns) (h : ns.length ≤ 16) : RowIn wd ns := by
  refine ⟨r.l1, h, r.l2, fun j => ?_, fun z => ?_⟩
  · rw [List.getD_eq_getElem?_getD]
    cases e : ns[j]? with
    | none => exact Nat.pow_pos (by decide)
    | some x => exact big_100 (r.small x (List.mem_of_getElem? e))
  · rw [List.getD_eq_getElem?_getD, r.one z]
    rfl
theorem RowIn.set {wd : Wd} {ns : List Nat} {i m : Nat} (r : RowIn wd ns) (hi : i < ns.length) (hp : wd = .products → 1 ≤ i) (hm : m < 2 ^ 100) : RowIn wd (ns.set i m) := by
  refine ⟨by rw [List.length_set]; exact r.l1, by rw [List.length_set]; exact r.l16, fun z => by rw [List.length_set]; exact r.l2 z, fun j => ?_, fun z => ?_⟩
  · by_cases e : j = i
    · subst e
      rw [set_eq hi]
      exact hm
    · rw [set_ne e]
      exact r.small j
  · have := hp z
    rw [set_ne (by omega)]
    exact r.one z
theorem tz_set (ns : List Nat) (i m : Nat) : (tz ns).set i (.int (m : Int)) = tz (ns.set i m) := by
  unfold tz iz
  rw [List.map_set, List.map_set]
end K88

set_option exponentiation.threshold 3000
namespace K88
open PySem PySem.Spec PyProof.Rows L2 Hr HrM Evl HrE_thing LamX RZ
def sp_law (K : PySem.W.Frag) (P0 : Addr) : Sp := fun vs H Q _ => ∃ (a : Addr) (ns : List Int), vs = [.ref a] ∧ SqL K H a (ns.map V.int) ∧ ns.length ≤ 63 ∧ H P0 = some (.tbl #[]) ∧ ∀ H', Q (.bl true) H'
def WordV : Hp → V → Prop := fun _ v => ∃ wd : Wd, isSP wd ∧ v = .str wd.s
theorem word_more (G G' : Hp) (v : V) (h : WordV G v) (e : Ex G G') : WordV G' v := h
def StepV : Hp → V → Prop := fun _ v => ∃ z : Int, v = .int z ∧ -4 ≤ z ∧ z ≤ 7
theorem step_more (G G' : Hp) (v : V) (h : StepV G v) (e : Ex G G') : StepV G' v := h
section
variable {P : Program} {w : World} {K : PySem.W.Frag} {mg : Str → Option Value} {base : Heap}
theorem ok_law (T : Txt K mg) {es : Array DictEntry} {n : Nat} (DA : KDict K w T.A_ASKS es n) (TB : TabB base mg T.c_greatest_top T.P_greatest_top) : FnG P w K mg base CX0 12 T.f_law T.d_law ["script"] (sp_law K T.P_greatest_top) := by
  have F_l_deck := ok_deck (P := P) (w := w) (base := base) T
  have F_l_draw := (ok_draw (P := P) (w := w) (base := base) T).imp (drawT (T := tabs T))
  have F_l_pick := (ok_pick (P := P) (w := w) (base := base) T).imp (pickT (T := tabs T))
  have F_l_choose := ok_choose (P := P) (w := w) (base := base) T
  have F_l_row := ok_l_row (P := P) (w := w) (base := base) T
  have F_l_is_right := ok_is_right (P := P) (w := w) (base := base) T TB DA
  have F_l_is_refused := ok_is_refused (P := P) (w := w) (base := base) T TB DA
  refine okG T.U_law sc_law (fun vs H Q E h => ?_) (fun cdv A outer s H vs Q E hr gg h => ?_)
  · obtain ⟨_, _, rfl, _⟩ := h
    rfl
  · obtain ⟨a, sc, rfl, hS, hl, hP, q⟩ := h
    refine ⟨_, (pss_cons (ps_set (i := 1) sc_law.nd rfl (.inl rfl) (pe_call F_l_deck (hr.mono (by decide)) (by rfl) T.g_l_deck T.k_l_deck T.b_l_deck .nil pass0 (pa_cons (pv 0) pa_nil)))
  (pss_cons (ps_for PassesOwn.never rfl (pi_range1 rfl T.n_range (pa_cons pe_int pa_nil)) (pg_name (i := 2) sc_law.nd rfl (.inl rfl)) (pss_cons (ps_set (i := 3) sc_law.nd rfl (.inl rfl) (pe_call F_l_pick (hr.mono (by decide)) (by rfl) T.g_l_pick T.k_l_pick T.b_l_pick .nil pass0 (pa_cons (pv 1) (pa_cons (pe_lst (pa_cons pe_str (pa_cons pe_str pa_nil))) pa_nil))))
  (pss_cons (ps_set (i := 4) sc_law.nd rfl (.inl rfl) (pe_call F_l_row (hr.mono (by decide)) (by rfl) T.g_l_row T.k_l_row T.b_l_row .nil pass0 (pa_cons (pv 1) (pa_cons (pv 3) pa_nil))))
  (pss_cut (ps_par rfl sc_law.nd (i := 5) (j := 6) rfl rfl (by decide) rfl rfl (pa_cons (pe_callTy call_list_of (by rfl) T.n_list (by decide +kernel) (pa_cons (pv 4) pa_nil)) (pa_cons (pe_ifExp (pt_cmpR op_eq (pv 3) pe_str (nomark _)) (pe_call F_l_draw (hr.mono (by decide)) (by rfl) T.g_l_draw T.k_l_draw T.b_l_draw .nil pass0 (pa_cons (pv 1) (pa_cons (pe_callB call_len_seq (by rfl) T.n_len PySem.boot_len (pa_cons (pv 4) pa_nil)) pa_nil))) (pe_op op_add pe_int (pe_call F_l_draw (hr.mono (by decide)) (by rfl) T.g_l_draw T.k_l_draw T.b_l_draw .nil pass0 (pa_cons (pv 1) (pa_cons (pe_op op_sub (pe_callB call_len_seq (by rfl) T.n_len PySem.boot_len (pa_cons (pv 4) pa_nil)) pe_int) pa_nil))))) pa_nil)) (by rfl))
  (pss_cons (ps_asg (pe_callB (call_max2 rfl) (by rfl) T.n_max (by decide +kernel) (pa_cons pe_int (pa_cons (pe_op op_add (pe_ix ix_list (pv 5) (pv 6) (fun _ _ => rfl)) (pe_call F_l_pick (hr.mono (by decide)) (by rfl) T.g_l_pick T.k_l_pick T.b_l_pick .nil pass0 (pa_cons (pv 1) (pa_cons (pe_lst (pa_cons pe_int (pa_cons (pe_un un_neg pe_int) (pa_cons pe_int (pa_cons pe_int (pa_cons (pe_un un_neg pe_int) pa_nil)))))) pa_nil)))) pa_nil))) (pg_sub (pv 5) (pv 6) set_list))
  (pss_one (ps_if (PW.pt (pw_or (pt_not (pt_val (pe_callG F_l_is_right (hr.mono (by decide)) gg (by rfl) T.g_l_is_right T.k_l_is_right T.b_l_is_right .nil pass0 (pa_cons (pv 1) (pa_cons (pv 3) (pa_cons (pv 4) pa_nil)))))) (pw_or1 (pt_not (pt_val (pe_callG F_l_is_right (hr.mono (by decide)) gg (by rfl) T.g_l_is_right T.k_l_is_right T.b_l_is_right .nil pass0 (pa_cons (pv 1) (pa_cons (pv 3) (pa_cons (pe_callTy call_tuple_of (by rfl) T.n_tuple (by decide +kernel) (pa_cons (pv 5) pa_nil)) pa_nil))))))))) (pss_one (ps_ret pe_bl)) pss_nil)))))))
  (pss_cons (ps_set (i := 7) sc_law.nd rfl (.inl rfl) (pe_op op_catN (pe_tup (pa_cons pe_int pa_nil)) (pe_callTy call_tuple_of (by rfl) T.n_tuple (by decide +kernel) (pa_cons (pe_lc (own := [("k", 9)]) (g := gName 9) (tt := tYes) rfl sc_law.nd (pi_range2 rfl T.n_range (pa_cons pe_int (pa_cons pe_int pa_nil))) (blkOk_by (own := [("k", 9)]) (N := ["script", "deck", "turn", "word", "row", "bent", "at", "long", "some", "k"]) (sc := defScope s_law) (by decide +kernel)) (fun _ _ _ _ _ => pg_name (i := 9) sc_law.nd rfl (Or.inl rfl)) (fun _ _ _ _ _ => pts_nil) (fun _ _ _ _ _ => (pe_call F_l_choose (hr.mono (by decide)) (by rfl) T.g_l_choose T.k_l_choose T.b_l_choose .nil pass0 (pa_cons pe_int (pa_cons (pv 9) pa_nil))))) pa_nil))))
  (pss_cons (ps_if (pt_not (pt_val (pe_callG F_l_is_right (hr.mono (by decide)) gg (by rfl) T.g_l_is_right T.k_l_is_right T.b_l_is_right .nil pass0 (pa_cons (pv 1) (pa_cons pe_str (pa_cons (pe_slice sl_tupN (pv 7) po_none (po_some (pe_op op_add pe_int (pe_call F_l_draw (hr.mono (by decide)) (by rfl) T.g_l_draw T.k_l_draw T.b_l_draw .nil pass0 (pa_cons (pv 1) (pa_cons pe_int pa_nil)))))) pa_nil)))))) (pss_one (ps_ret pe_bl)) pss_nil)
  (pss_cons (ps_set (i := 8) sc_law.nd rfl (.inl rfl) (pe_lst (pa_cons (pe_tup (pa_cons pe_str (pa_cons (pe_tup (pa_cons pe_non (pa_cons pe_int pa_nil))) pa_nil))) (pa_cons (pe_tup (pa_cons pe_str (pa_cons (pe_tup (pa_cons pe_non (pa_cons pe_non pa_nil))) pa_nil))) (pa_cons (pe_tup (pa_cons pe_str (pa_cons (pe_tup (pa_cons pe_non pa_nil)) (pa_cons (pe_tup (pa_cons pe_int pa_nil)) pa_nil)))) (pa_cons (pe_tup (pa_cons pe_str (pa_cons (pe_tup (pa_cons pe_int (pa_cons pe_non (pa_cons pe_non (pa_cons pe_int pa_nil))))) pa_nil))) pa_nil))))))
  (pss_one (ps_ret (pe_callG F_l_is_refused (hr.mono (by decide)) gg (by rfl) T.g_l_is_refused T.k_l_is_refused T.b_l_is_refused .nil pass0 (pa_cons (pe_call F_l_pick (hr.mono (by decide)) (by rfl) T.g_l_pick T.k_l_pick T.b_l_pick .nil pass0 (pa_cons (pv 1) (pa_cons (pe_op op_cat (pv 8) (pe_lst (pa_cons (pe_tup (pa_cons pe_str (pa_cons pe_int (pa_cons (pe_tup (pa_cons pe_non (pa_cons pe_int pa_nil))) pa_nil)))) (pa_cons (pe_tup (pa_cons pe_str (pa_cons (pe_tup (pa_cons pe_non pa_nil)) pa_nil))) (pa_cons (pe_tup (pa_cons pe_str (pa_cons (pe_tup (pa_cons pe_int (pa_cons pe_non (pa_cons pe_non pa_nil)))) pa_nil))) pa_nil))))) pa_nil))) pa_nil))))))))), ?_⟩
    have hT0 : Tabs (tabs T) H := Tabs.nil fun p hp => by
      rw [List.mem_singleton.mp hp]
      exact hP
    refine ⟨_, rfl, a, sc, rfl, hS, hl, fun d H1 k1 => ?_⟩
    refine ⟨4, rfl, by decide, by decide, ?_⟩
    refine for_range (lo := 0) (n := 4) (fun i σ' H' => ∃ (y2 y3 y4 y5 y6 : Option V) (G : Hp), σ' = [some (.ref a), some (.ref d), y2, y3, y4, y5, y6, none, none, none] ∧ DkT (tabs T) G d H') ⟨none, none, none, none, none, nt H, rfl, DkT.start k1 hT0⟩ ?_ ?_
    · rintro j σ' H2 hj ⟨y2, y3, y4, y5, y6, G, rfl, D⟩
      dsimp only [gName]
      refine r_seq (r_set ?_)
      refine evd_pickI (T := tabs T) (G := G) (d := d) (R := WordV) (k := 2) rfl (evd_lst word_more
        (evds_cons word_more (evd_c D ⟨.sets, .inl rfl, rfl⟩) fun G1 H1 _ D1 =>
        evds_cons word_more (evd_c D1 ⟨.products, .inr rfl, rfl⟩) fun G1 H1 _ D1 =>
        evds_nil D1) (by decide)) (by decide) (by decide) _ fun v3 G3 H3 e3 D3 ⟨wd, hw, ew⟩ => ?_
      subst ew
      dsimp only [gName]
      refine r_seq (r_set ?_)
      refine ⟨_, rfl, _, rfl, G3, d, wd, rfl, hw, D3, fun p ns G4 H4 e4 D4 hp ok l7 => ?_⟩
      dsimp only [gName]
      have l1 := ok.l1
      have b22 : (16 : Int) ≤ 10000000000000000000000 := by decide
      have hl4 := tz_len ns
      -- bent, at
      refine ⟨fun σ' H' => ∃ (b : Addr) (i : Nat) (G5 : Hp), σ' = [some (.ref a), some (.ref d), some (.int (0 + (j : Int))), some (.str wd.s), some (.ref p), some (.ref b), some (.int (i : Int)), none, none, none] ∧ i < ns.length ∧ (wd = .products → 1 ≤ i) ∧ G5 p = some (.tup (tz ns)) ∧ G5 b = some (.lst (tz ns)) ∧ DkT (tabs T) G5 d H', ?_, ?_⟩
      · refine ⟨_, rfl, p, _, rfl, .inr (SqT.of (D4.get hp)), fun b nb => ?_⟩
        have D5 := D4.made (o := .lst (tz ns)) nb
        have hp5 := D4.gex (o := .lst (tz ns)) nb _ _ hp
        have hb5 : (upd G4 b (.lst (tz ns))) b = some (.lst (tz ns)) := upd_same
        generalize upd G4 b (.lst (tz ns)) = G5 at D5 hp5 hb5
        generalize upd H4 b (.lst (tz ns)) = H5 at D5
        rcases hw with rfl | rfl
        · refine ⟨_, rfl, rfl, _, rfl, ite_yes (by decide +kernel) ?_⟩
          refine ⟨_, rfl, _, rfl, p, _, rfl, .inr (SqT.of (D5.get hp5)), G5, d, (ns.length : Int), by rw [hl4]; rfl, by omega, by omega, D5, fun r H' r0 r1 D' => ⟨_, _, rfl, b, r.toNat, G5, by rw [Int.toNat_of_nonneg r0]; rfl, by omega, (fun z => by cases z), hp5, hb5, D'⟩⟩
        · have l2 := ok.l2 rfl
          refine ⟨_, rfl, rfl, _, rfl, ite_no (by decide +kernel) ?_⟩
          refine ⟨_, rfl, _, rfl, p, _, rfl, .inr (SqT.of (D5.get hp5)), _, _, rfl, rfl, G5, d, (ns.length : Int) - 1, by rw [hl4]; rfl, by omega, by omega, D5, fun r H' r0 r1 D' => ⟨_, _, rfl, rfl, _, _, rfl, b, r.toNat + 1, G5, ?_, by omega, fun _ => by omega, hp5, hb5, D'⟩⟩
          rw [show ((r.toNat + 1 : Nat) : Int) = 1 + r by omega]
          rfl
      rintro σ' H5 ⟨b, i, G5, rfl, hi, hpi, hp5, hb5, D5⟩
      have ib : (tz ns)[i]? = some (.int ((ns.getD i 0 : Nat) : Int)) := tz_ix hi
      refine ⟨_, rfl, _, rfl, b, _, _, _, rfl, rfl, SqL.of (D5.get hb5), atI_nat ib, ?_⟩
      refine evd_pickI (T := tabs T) (G := G5) (d := d) (R := StepV) (k := 5) rfl (evd_lst step_more
        (evds_cons step_more (evd_c D5 ⟨1, rfl, by decide, by decide⟩) fun G1 H1 _ D1 =>
        evds_cons step_more (fun Q q => ⟨_, rfl, q _ G1 H1 (Ex.refl _) D1 ⟨-1, rfl, by decide, by decide⟩⟩) fun G1 H1 _ D1 =>
        evds_cons step_more (evd_c D1 ⟨2, rfl, by decide, by decide⟩) fun G1 H1 _ D1 =>
        evds_cons step_more (evd_c D1 ⟨7, rfl, by decide, by decide⟩) fun G1 H1 _ D1 =>
        evds_cons step_more (fun Q q => ⟨_, rfl, q _ G1 H1 (Ex.refl _) D1 ⟨-4, rfl, by decide, by decide⟩⟩) fun G1 H1 _ D1 =>
        evds_nil D1) (by decide)) (by decide) (by decide) _ fun v6 G6 H6 e6 D6 ⟨z, ez, z0, z1⟩ => ?_
      subst ez
      have hb6 := e6 _ _ hb5
      have hp6 := e6 _ _ hp5
      have hin := ok.inn (by omega)
      have hsm := hin.small i
      obtain ⟨m, em, hm⟩ : ∃ m : Nat, V.int (if ((ns.getD i 0 : Nat) : Int) + z > 0 then ((ns.getD i 0 : Nat) : Int) + z else 0) = .int (m : Int) ∧ m ≤ ns.getD i 0 + 7 := by
        refine ⟨(((ns.getD i 0 : Nat) : Int) + z).toNat, ?_, by omega⟩
        congr 1
        split <;> omega
      have hm100 : m < 2 ^ 100 := by
        have hb : ns.getD i 0 ≤ big := by
          rw [List.getD_eq_getElem?_getD, List.getElem?_eq_getElem hi]
          exact ok.small _ (List.getElem_mem _)
        have : big + 7 < 2 ^ 100 := by decide
        omega
      refine ⟨_, _, rfl, rfl, _, _, rfl, ?_⟩
      simp only [em]
      refine ⟨_, rfl, _, rfl, b, _, _, i, rfl, rfl, D6.get hb6, ?_, ?_⟩
      · unfold ixN
        rw [if_pos (by omega), if_pos (by rw [hl4]; omega)]
        simp
      rw [tz_set]
      have D7 := D6.setL (ys := tz (ns.set i m)) hb6
      have hp7 : (upd G6 b (.lst (tz (ns.set i m)))) p = some (.tup (tz ns)) := by
        rw [upd_ne (fun z => by rw [z, hb6] at hp6; cases hp6)]
        exact hp6
      have hb7 : (upd G6 b (.lst (tz (ns.set i m)))) b = some (.lst (tz (ns.set i m))) := upd_same
      generalize upd G6 b (.lst (tz (ns.set i m))) = G7 at D7 hp7 hb7
      generalize upd H6 b (.lst (tz (ns.set i m))) = H7 at D7
      refine ⟨_, rfl, _, rfl, _, rfl, G7, d, p, wd, ns, rfl, hw, D7, hp7, hin, fun G8 H8 e8 D8 => ⟨_, rfl, iteF ?_⟩⟩
      refine ⟨_, rfl, _, rfl, _, rfl, b, _, rfl, .inl ⟨SqL.of (D8.get (e8 _ _ hb7)), fun r nr => ?_⟩⟩
      refine ⟨_, d, r, wd, ns.set i m, rfl, hw, D8.made nr, upd_same, hin.set hi hpi hm100, fun G9 H9 e9 D9 => ⟨_, rfl, iteF ?_⟩⟩
      exact ⟨_, _, _, _, _, G9, rfl, D9⟩
    · rintro σ' H2 ⟨y2, y3, y4, y5, y6, G, rfl, D⟩
      refine ⟨small1, fun c nc => ?_⟩
      have D1 := D.made (o := .tup [.int 16]) nc
      have hc1 : (upd G c (.tup [.int 16])) c = some (.tup (tz [16])) := upd_same
      generalize upd G c (.tup [.int 16]) = G1 at D1 hc1
      generalize upd H2 c (.tup [.int 16]) = H3 at D1
      refine r_cb (r_arg ?_)
      refine el_lcR (H := H3) (lo := 2) (hi := 17) (σ := [some (.ref a), some (.ref d), y2, y3, y4, y5, y6, none, none, none]) (fun H1 e Q1 q1 => q1 H1 (Ex.refl H1)) (by decide) (fun _ => true) (fun k => .int ((ch 16 (k + 2) : Nat) : Int)) (by decide) ?_ _ (Ex.refl _) _ ?_
      · intro k H4 e4 hk
        have hk' : k < 15 := hk
        have ek : (2 : Int) + (k : Int) = ((k + 2 : Nat) : Int) := by omega
        rw [ek]
        refine ⟨[some (.ref a), some (.ref d), y2, y3, y4, y5, y6, none, none, some (.int ((k + 2 : Nat) : Int))], fun k hk => hk, rfl, et_yes, fun _ => ?_⟩
        intro H5 e5 Q5 q5
        exact ⟨_, rfl, 16, k + 2, rfl, by decide, by omega, q5 H5 (Ex.refl _)⟩
      intro l H4 nl e4 hl4
      rw [given_nat] at hl4
      refine ⟨l, _, rfl, .inl ⟨SqL.of hl4, fun u nu => ?_⟩⟩
      have D4 := D1.more e4
      have hc4 := hc1
      have D5 := D4.made (o := .tup (tz ((List.range 15).map fun k => ch 16 (k + 2)))) nu
      have e5 := D4.gex (o := .tup (tz ((List.range 15).map fun k => ch 16 (k + 2)))) nu
      have hc5 := e5 _ _ hc1
      have hu5 : (upd G1 u (.tup (tz ((List.range 15).map fun k => ch 16 (k + 2))))) u = some (.tup (tz ((List.range 15).map fun k => ch 16 (k + 2)))) := upd_same
      refine ⟨c, u, _, _, rfl, rfl, D5.get hc5, D5.get hu5, ?_, fun S H6 cm => ?_⟩
      · rw [tz_len, tz_len, List.length_map, List.length_range]
        decide
      obtain ⟨G6, e6, hS6, D6⟩ := D5.came cm fun x hx => by
        simp only [List.mem_cons, List.not_mem_nil, or_false] at hx
        rcases hx with rfl | rfl
        · rw [hc5]; exact Option.some_ne_none _
        · rw [hu5]; exact Option.some_ne_none _
      have eL : tz [16] ++ tz ((List.range 15).map fun k => ch 16 (k + 2)) = tz (16 :: (List.range 15).map fun k => ch 16 (k + 2)) := by
        unfold tz iz
        rw [← List.map_append, ← List.map_append]
        rfl
      rw [eL] at hS6
      generalize hL : (16 :: (List.range 15).map fun k => ch 16 (k + 2)) = L at hS6
      have hLl : L.length = 16 := by rw [← hL, List.length_cons, List.length_map, List.length_range]
      have hLs : ∀ x ∈ L, x ≤ 2 ^ 64 := fun x hx => by
        rw [← hL] at hx
        rcases List.mem_cons.mp hx with rfl | hx
        · decide
        · obtain ⟨k, hk, rfl⟩ := List.mem_map.mp hx
          have hk2 := List.mem_range.mp hk
          exact ch_pow (a := 16) (b := 4) (m := 16) (by decide) (by omega)
      clear hl4 hc4 hu5 hc5 cm
      dsimp only [gName]
      refine ⟨_, rfl, _, rfl, ?_⟩
      refine evd_draw (T := tabs T) (G := G6) (d := d) (m := 9) (i := 1) rfl D6 (by decide) (by decide) _ fun v7 G7 H7 e7 D7 ⟨z, ez, _, hz⟩ => ?_
      subst ez
      have hS7 := e7 _ _ hS6
      refine ⟨_, _, rfl, rfl, ((8 + z : Nat) : Int), by rw [Int.natCast_add]; rfl, S, _, rfl, D7.get hS7, fun p H8 c8 => ?_⟩
      rw [cut_to] at c8
      obtain ⟨G8, e8, hp8, D8⟩ := D7.came c8 fun x hx => by
        rw [List.mem_singleton.mp hx, hS7]
        exact Option.some_ne_none _
      have eT : (tz L).take (8 + z) = tz (L.take (8 + z)) := by
        unfold tz iz
        rw [← List.map_take, ← List.map_take]
      rw [eT] at hp8
      have hin : RowIn .sets (L.take (8 + z)) := by
        refine RowOk.inn ⟨by rw [List.length_take]; omega, (fun z => by cases z), fun x hx => Nat.le_trans (hLs x (List.mem_of_mem_take hx)) (by decide), fun z => by cases z⟩ (by rw [List.length_take]; omega)
      refine ⟨G8, d, p, .sets, _, rfl, .inl rfl, D8, hp8, hin, fun G9 H9 e9 D9 => ⟨_, rfl, iteF ?_⟩⟩
      dsimp only [tNext]
      refine r_seq (r_set ?_)
      have fs : ∀ x : Str, True := fun _ => trivial
      refine evd_lst (T := tabs T) (d := d) (G := G9) ask_more (k := 4)
        (evds_cons ask_more (evd_ask1 .spheres [none, some 3] D9 (fun _ _ q => q) (by decide) (by decide) ⟨(fun z => by cases z), fun z => by cases z⟩ (fun z => by rcases z with z | z <;> cases z) (fun z => by cases z) ⟨by decide +kernel, by decide +kernel, by decide +kernel, by decide +kernel, by decide +kernel⟩) fun G1 H1 _ D1 =>
        evds_cons ask_more (evd_ask1 .sets [none, none] D1 (fun _ _ q => q) (by decide) (by decide) ⟨(fun z => by cases z), fun z => by cases z⟩ (fun _ => by decide) (fun z => by cases z) ⟨by decide +kernel, by decide +kernel, by decide +kernel, by decide +kernel, by decide +kernel⟩) fun G1 H1 _ D1 =>
        evds_cons ask_more (evd_ask2 [none] [some 2] D1 (fun _ _ q => q) (fun _ _ q => q) (by decide) (by decide) (by decide) (by decide) ⟨by decide +kernel, by decide +kernel, by decide +kernel, by decide +kernel, by decide +kernel⟩) fun G1 H1 _ D1 =>
        evds_cons ask_more (evd_ask1 .products [some 1, none, none, some 2] D1 (fun _ _ q => q) (by decide) (by decide) ⟨(fun z => by cases z), fun z => by cases z⟩ (fun _ => by decide) (fun _ => rfl) ⟨by decide +kernel, by decide +kernel, by decide +kernel, by decide +kernel, by decide +kernel⟩) fun G1 H1 _ D1 =>
        evds_nil D1) (by decide) _ fun some4 G10 H10 e10 D10 h4 => ?_
      dsimp only [gName]
      refine evd_pickI (T := tabs T) (G := G10) (d := d) (R := AskV) (k := 7) rfl (evd_catL ask_more (k := 4) (m := 3) (evd_var D10 rfl h4) (fun G11 H11 _ D11 => evd_lst (T := tabs T) (d := d) (G := G11) ask_more (k := 3)
        (evds_cons ask_more (evd_ask3 2 [none, some 1] D11 (fun _ _ q => q) (by decide) (by decide) ⟨by decide +kernel, by decide +kernel, by decide +kernel, by decide +kernel, by decide +kernel⟩) fun G1 H1 _ D1 =>
        evds_cons ask_more (evd_ask1 .sound [none] D1 (fun _ _ q => q) (by decide) (by decide) ⟨(fun z => by cases z), fun z => by cases z⟩ (fun z => by rcases z with z | z <;> cases z) (fun z => by cases z) ⟨by decide +kernel, by decide +kernel, by decide +kernel, by decide +kernel, by decide +kernel⟩) fun G1 H1 _ D1 =>
        evds_cons ask_more (evd_ask1 .sets [some 4, none, none] D1 (fun _ _ q => q) (by decide) (by decide) ⟨(fun z => by cases z), fun z => by cases z⟩ (fun _ => by decide) (fun z => by cases z) ⟨by decide +kernel, by decide +kernel, by decide +kernel, by decide +kernel, by decide +kernel⟩) fun G1 H1 _ D1 =>
        evds_nil D1) (by decide)) (by decide)) (by decide) (by decide) _ fun v12 G12 H12 e12 D12 ⟨k, wd, rs, ds, ek, hA, hg, hd, hf⟩ => ?_
      subst ek
      exact ⟨k, wd, rs, ds, rfl, hA.more D12.k.ex, hg, hd.moreN (.of D12.k.ex), hf, D12.t, fun H' => q H'⟩
end
end K88

namespace K88
open PySem PySem.Spec PyProof.Rows L2 Hr HrM Evl HrE_thing LamX PySem.W
theorem all_mk {l : PySem.W.OpenLaw} {pq : Program} {lo : List Str} {me : ExcName → Option Value} {w : World} {K : PySem.W.Frag} {h : Heap} {mg mb : Str → Option Value} {fa : Addr} (X : K.In h) (Tp : Top pq lo me mg mb h) (hfa : mg "law" = some (.ref fa))
    {f0 : Addr} {od0 an0 : Option Addr} {sl0 : Array (Option Value)} {oc0 kV0 dc0 pm0 cd0 ct0 : Value}
    {f1 : Addr} {od1 an1 : Option Addr} {sl1 : Array (Option Value)} {oc1 kV1 dc1 pm1 cd1 ct1 : Value}
    {f2 : Addr} {od2 an2 : Option Addr} {sl2 : Array (Option Value)} {oc2 kV2 dc2 pm2 cd2 ct2 : Value}
    {f3 : Addr} {od3 an3 : Option Addr} {sl3 : Array (Option Value)} {oc3 kV3 dc3 pm3 cd3 ct3 : Value}
    {f4 : Addr} {od4 an4 : Option Addr} {sl4 : Array (Option Value)} {oc4 kV4 dc4 pm4 cd4 ct4 : Value}
    {f5 : Addr} {od5 an5 : Option Addr} {sl5 : Array (Option Value)} {oc5 kV5 dc5 pm5 cd5 ct5 : Value}
    {f6 : Addr} {od6 an6 : Option Addr} {sl6 : Array (Option Value)} {oc6 kV6 dc6 pm6 cd6 ct6 : Value}
    {f7 : Addr} {od7 an7 : Option Addr} {sl7 : Array (Option Value)} {oc7 kV7 dc7 pm7 cd7 ct7 : Value}
    {f8 : Addr} {od8 an8 : Option Addr} {sl8 : Array (Option Value)} {oc8 kV8 dc8 pm8 cd8 ct8 : Value}
    {f9 : Addr} {od9 an9 : Option Addr} {sl9 : Array (Option Value)} {oc9 kV9 dc9 pm9 cd9 ct9 : Value}
    {f10 : Addr} {od10 an10 : Option Addr} {sl10 : Array (Option Value)} {oc10 kV10 dc10 pm10 cd10 ct10 : Value}
    {f11 : Addr} {od11 an11 : Option Addr} {sl11 : Array (Option Value)} {oc11 kV11 dc11 pm11 ct11 : Value}
    {lc0 P0 : Addr} {ob0 : Value} {oe0 : Option Addr} {vs0 : Array Value} {of0 : Array (Option Value)}
    {f12 : Addr} {od12 an12 : Option Addr} {sl12 : Array (Option Value)} {oc12 kV12 dc12 pm12 cd12 ct12 : Value}
    {f13 : Addr} {od13 an13 : Option Addr} {sl13 : Array (Option Value)} {oc13 kV13 dc13 pm13 cd13 ct13 : Value}
    {f14 : Addr} {od14 an14 : Option Addr} {sl14 : Array (Option Value)} {oc14 kV14 dc14 pm14 cd14 ct14 : Value}
    {f15 : Addr} {od15 an15 : Option Addr} {sl15 : Array (Option Value)} {oc15 kV15 dc15 pm15 cd15 ct15 : Value}
    {f16 : Addr} {od16 an16 : Option Addr} {sl16 : Array (Option Value)} {oc16 kV16 dc16 pm16 cd16 ct16 : Value}
    {f17 : Addr} {od17 an17 : Option Addr} {sl17 : Array (Option Value)} {oc17 kV17 dc17 pm17 cd17 ct17 : Value}
    {f18 : Addr} {od18 an18 : Option Addr} {sl18 : Array (Option Value)} {oc18 kV18 dc18 pm18 cd18 ct18 : Value}
    {f19 : Addr} {od19 an19 : Option Addr} {sl19 : Array (Option Value)} {oc19 kV19 dc19 pm19 cd19 ct19 : Value}
    {f20 : Addr} {od20 an20 : Option Addr} {sl20 : Array (Option Value)} {oc20 kV20 dc20 pm20 cd20 ct20 : Value}
    {f21 : Addr} {od21 an21 : Option Addr} {sl21 : Array (Option Value)} {oc21 kV21 dc21 pm21 cd21 ct21 : Value}
    {f22 : Addr} {od22 an22 : Option Addr} {sl22 : Array (Option Value)} {oc22 kV22 dc22 pm22 cd22 ct22 : Value}
    {f23 : Addr} {od23 an23 : Option Addr} {sl23 : Array (Option Value)} {oc23 kV23 dc23 pm23 cd23 ct23 : Value}
    {f24 : Addr} {od24 an24 : Option Addr} {sl24 : Array (Option Value)} {oc24 kV24 dc24 pm24 cd24 ct24 : Value}
    {f25 : Addr} {od25 an25 : Option Addr} {sl25 : Array (Option Value)} {oc25 kV25 dc25 pm25 cd25 ct25 : Value}
    {f26 : Addr} {od26 an26 : Option Addr} {sl26 : Array (Option Value)} {oc26 kV26 dc26 pm26 cd26 ct26 : Value}
    {f27 : Addr} {od27 an27 : Option Addr} {sl27 : Array (Option Value)} {oc27 kV27 dc27 pm27 cd27 ct27 : Value}
    {f28 : Addr} {od28 an28 : Option Addr} {sl28 : Array (Option Value)} {oc28 kV28 dc28 pm28 cd28 ct28 : Value}
    {f29 : Addr} {od29 an29 : Option Addr} {sl29 : Array (Option Value)} {oc29 kV29 dc29 pm29 cd29 ct29 : Value}
    {f30 : Addr} {od30 an30 : Option Addr} {sl30 : Array (Option Value)} {oc30 kV30 dc30 pm30 cd30 ct30 : Value}
    {f31 : Addr} {od31 an31 : Option Addr} {sl31 : Array (Option Value)} {oc31 kV31 dc31 pm31 cd31 ct31 : Value}
    {f32 : Addr} {od32 an32 : Option Addr} {sl32 : Array (Option Value)} {oc32 kV32 dc32 pm32 cd32 ct32 : Value}
    {f33 : Addr} {od33 an33 : Option Addr} {sl33 : Array (Option Value)} {oc33 kV33 dc33 pm33 cd33 ct33 : Value}
    {f34 : Addr} {od34 an34 : Option Addr} {sl34 : Array (Option Value)} {oc34 kV34 dc34 pm34 cd34 ct34 : Value}
    {f35 : Addr} {od35 an35 : Option Addr} {sl35 : Array (Option Value)} {oc35 kV35 dc35 pm35 cd35 ct35 : Value}
    {f36 : Addr} {od36 an36 : Option Addr} {sl36 : Array (Option Value)} {oc36 kV36 dc36 pm36 cd36 ct36 : Value}
    {f37 : Addr} {od37 an37 : Option Addr} {sl37 : Array (Option Value)} {oc37 kV37 dc37 pm37 cd37 ct37 : Value}
    {f38 : Addr} {od38 an38 : Option Addr} {sl38 : Array (Option Value)} {oc38 kV38 dc38 pm38 cd38 ct38 : Value}
    {f39 : Addr} {od39 an39 : Option Addr} {sl39 : Array (Option Value)} {oc39 kV39 dc39 pm39 cd39 ct39 : Value}
    {f40 : Addr} {od40 an40 : Option Addr} {sl40 : Array (Option Value)} {oc40 kV40 dc40 pm40 cd40 ct40 : Value}
    {f41 : Addr} {od41 an41 : Option Addr} {sl41 : Array (Option Value)} {oc41 kV41 dc41 pm41 cd41 ct41 : Value}
    {f42 : Addr} {od42 an42 : Option Addr} {sl42 : Array (Option Value)} {oc42 kV42 dc42 pm42 cd42 ct42 : Value}
    {f43 : Addr} {od43 an43 : Option Addr} {sl43 : Array (Option Value)} {oc43 kV43 dc43 pm43 cd43 ct43 : Value}
    {f44 : Addr} {od44 an44 : Option Addr} {sl44 : Array (Option Value)} {oc44 kV44 dc44 pm44 cd44 ct44 : Value}
    {f45 : Addr} {od45 an45 : Option Addr} {sl45 : Array (Option Value)} {oc45 kV45 dc45 pm45 cd45 ct45 : Value}
    {f46 : Addr} {od46 an46 : Option Addr} {sl46 : Array (Option Value)} {oc46 kV46 dc46 pm46 cd46 ct46 : Value}
    {f47 : Addr} {od47 an47 : Option Addr} {sl47 : Array (Option Value)} {oc47 kV47 dc47 pm47 cd47 ct47 : Value}
    {f48 : Addr} {od48 an48 : Option Addr} {sl48 : Array (Option Value)} {oc48 kV48 dc48 pm48 cd48 ct48 : Value}
    {f49 : Addr} {od49 an49 : Option Addr} {sl49 : Array (Option Value)} {oc49 kV49 dc49 pm49 cd49 ct49 : Value}
    {f50 : Addr} {od50 an50 : Option Addr} {sl50 : Array (Option Value)} {oc50 kV50 dc50 pm50 cd50 ct50 : Value}
    {f51 : Addr} {od51 an51 : Option Addr} {sl51 : Array (Option Value)} {oc51 kV51 dc51 pm51 cd51 ct51 : Value}
    {f52 : Addr} {od52 an52 : Option Addr} {sl52 : Array (Option Value)} {oc52 kV52 dc52 pm52 cd52 ct52 : Value}
    {tk0 : Tok}
    {tk1 : Tok}
    {tk2 : Tok}
    {AD0 : Addr} {eD0 : Array DictEntry} {nD0 : Nat} {tD0_0 tD0_1 tD0_2 tD0_3 tD0_4 tD0_5 : Tok}
    {CT : Addr}
    {X0 J0 : Addr} {xn0 xq0 : Str} {xN0 : Addr} {xb0 : List Value} {xs0 : List Str} {xu0 : List Value} {xa0 : Bool} {xc0 : Option Bool} {xd0 : Option Addr} {w0a w0b w0c w0d w0e : Option Value}
    {ro0 rd0 rp0 rc0 rt0 : Value} {re0 ra0 : Option Addr} {rs0 : Array (Option Value)} {g0a g0b g0c g0d g0e g0f : Pos}
    (a0 : PySem.W.nsIn K mainGlobals "is_integer" = some (some (.ref f0)))
    (l0 : K.lookup f0 = some ⟨oc0, od0, .func (PySem.W.fnOf "is_integer" "is_integer" (defArgs s_is_integer) (defBody s_is_integer) (defScope s_is_integer) .none kV0 dc0 pm0 an0 (cd0) ct0), sl0⟩)
    (c0 : PySem.W.codeIn K (cd0) "is_integer" = true)
    (k0 : PySem.W.keepIn K (.ref f0) = true)
    (a1 : PySem.W.nsIn K mainGlobals "is_integer_from" = some (some (.ref f1)))
    (l1 : K.lookup f1 = some ⟨oc1, od1, .func (PySem.W.fnOf "is_integer_from" "is_integer_from" (defArgs s_is_integer_from) (defBody s_is_integer_from) (defScope s_is_integer_from) .none kV1 dc1 pm1 an1 (cd1) ct1), sl1⟩)
    (c1 : PySem.W.codeIn K (cd1) "is_integer_from" = true)
    (k1 : PySem.W.keepIn K (.ref f1) = true)
    (a2 : PySem.W.nsIn K mainGlobals "are_integers_from" = some (some (.ref f2)))
    (l2 : K.lookup f2 = some ⟨oc2, od2, .func (PySem.W.fnOf "are_integers_from" "are_integers_from" (defArgs s_are_integers_from) (defBody s_are_integers_from) (defScope s_are_integers_from) .none kV2 dc2 pm2 an2 (cd2) ct2), sl2⟩)
    (c2 : PySem.W.codeIn K (cd2) "are_integers_from" = true)
    (k2 : PySem.W.keepIn K (.ref f2) = true)
    (a3 : PySem.W.nsIn K mainGlobals "is_just" = some (some (.ref f3)))
    (l3 : K.lookup f3 = some ⟨oc3, od3, .func (PySem.W.fnOf "is_just" "is_just" (defArgs s_is_just) (defBody s_is_just) (defScope s_is_just) .none kV3 dc3 pm3 an3 (cd3) ct3), sl3⟩)
    (c3 : PySem.W.codeIn K (cd3) "is_just" = true)
    (k3 : PySem.W.keepIn K (.ref f3) = true)
    (a4 : PySem.W.nsIn K mainGlobals "cascade_of" = some (some (.ref f4)))
    (l4 : K.lookup f4 = some ⟨oc4, od4, .func (PySem.W.fnOf "cascade_of" "cascade_of" (defArgs s_cascade_of) (defBody s_cascade_of) (defScope s_cascade_of) .none kV4 dc4 pm4 an4 (cd4) ct4), sl4⟩)
    (c4 : PySem.W.codeIn K (cd4) "cascade_of" = true)
    (k4 : PySem.W.keepIn K (.ref f4) = true)
    (a5 : PySem.W.nsIn K mainGlobals "lower_sets" = some (some (.ref f5)))
    (l5 : K.lookup f5 = some ⟨oc5, od5, .func (PySem.W.fnOf "lower_sets" "lower_sets" (defArgs s_lower_sets) (defBody s_lower_sets) (defScope s_lower_sets) .none kV5 dc5 pm5 an5 (cd5) ct5), sl5⟩)
    (c5 : PySem.W.codeIn K (cd5) "lower_sets" = true)
    (k5 : PySem.W.keepIn K (.ref f5) = true)
    (a6 : PySem.W.nsIn K mainGlobals "upper_sets" = some (some (.ref f6)))
    (l6 : K.lookup f6 = some ⟨oc6, od6, .func (PySem.W.fnOf "upper_sets" "upper_sets" (defArgs s_upper_sets) (defBody s_upper_sets) (defScope s_upper_sets) .none kV6 dc6 pm6 an6 (cd6) ct6), sl6⟩)
    (c6 : PySem.W.codeIn K (cd6) "upper_sets" = true)
    (k6 : PySem.W.keepIn K (.ref f6) = true)
    (a7 : PySem.W.nsIn K mainGlobals "lower_products" = some (some (.ref f7)))
    (l7 : K.lookup f7 = some ⟨oc7, od7, .func (PySem.W.fnOf "lower_products" "lower_products" (defArgs s_lower_products) (defBody s_lower_products) (defScope s_lower_products) .none kV7 dc7 pm7 an7 (cd7) ct7), sl7⟩)
    (c7 : PySem.W.codeIn K (cd7) "lower_products" = true)
    (k7 : PySem.W.keepIn K (.ref f7) = true)
    (a8 : PySem.W.nsIn K mainGlobals "upper_products" = some (some (.ref f8)))
    (l8 : K.lookup f8 = some ⟨oc8, od8, .func (PySem.W.fnOf "upper_products" "upper_products" (defArgs s_upper_products) (defBody s_upper_products) (defScope s_upper_products) .none kV8 dc8 pm8 an8 (cd8) ct8), sl8⟩)
    (c8 : PySem.W.codeIn K (cd8) "upper_products" = true)
    (k8 : PySem.W.keepIn K (.ref f8) = true)
    (a9 : PySem.W.nsIn K mainGlobals "check_number" = some (some (.ref f9)))
    (l9 : K.lookup f9 = some ⟨oc9, od9, .func (PySem.W.fnOf "check_number" "check_number" (defArgs s_check_number) (defBody s_check_number) (defScope s_check_number) .none kV9 dc9 pm9 an9 (cd9) ct9), sl9⟩)
    (c9 : PySem.W.codeIn K (cd9) "check_number" = true)
    (k9 : PySem.W.keepIn K (.ref f9) = true)
    (a10 : PySem.W.nsIn K mainGlobals "check_size" = some (some (.ref f10)))
    (l10 : K.lookup f10 = some ⟨oc10, od10, .func (PySem.W.fnOf "check_size" "check_size" (defArgs s_check_size) (defBody s_check_size) (defScope s_check_size) .none kV10 dc10 pm10 an10 (cd10) ct10), sl10⟩)
    (c10 : PySem.W.codeIn K (cd10) "check_size" = true)
    (k10 : PySem.W.keepIn K (.ref f10) = true)
    (a11 : PySem.W.nsIn K mainGlobals "greatest_top" = some (some (.ref f11)))
    (l11 : K.lookup f11 = some ⟨oc11, od11, .func (PySem.W.fnOf "greatest_top" "greatest_top" (defArgs s_greatest_top) (defBody s_greatest_top) (defScope s_greatest_top) .none kV11 dc11 pm11 an11 (.ref lc0) ct11), sl11⟩)
    (c11 : PySem.W.codeIn K (.ref lc0) "greatest_top" = true)
    (k11 : PySem.W.keepIn K (.ref f11) = true)
    (lk0 : K.lookup lc0 = some ⟨ob0, oe0, .fields vs0, of0⟩)
    (hv0 : vs0[11]? = some (.ref P0))
    (np0 : K.lookup P0 = none)
    (ch0 : PySem.W.codeHdIn K lc0 P0 = true)
    (ht0 : h.get? P0 = some (PySem.W.tabObj #[]))
    (a12 : PySem.W.nsIn K mainGlobals "greatest_within" = some (some (.ref f12)))
    (l12 : K.lookup f12 = some ⟨oc12, od12, .func (PySem.W.fnOf "greatest_within" "greatest_within" (defArgs s_greatest_within) (defBody s_greatest_within) (defScope s_greatest_within) .none kV12 dc12 pm12 an12 (cd12) ct12), sl12⟩)
    (c12 : PySem.W.codeIn K (cd12) "greatest_within" = true)
    (k12 : PySem.W.keepIn K (.ref f12) = true)
    (a13 : PySem.W.nsIn K mainGlobals "moved_sum" = some (some (.ref f13)))
    (l13 : K.lookup f13 = some ⟨oc13, od13, .func (PySem.W.fnOf "moved_sum" "moved_sum" (defArgs s_moved_sum) (defBody s_moved_sum) (defScope s_moved_sum) .none kV13 dc13 pm13 an13 (cd13) ct13), sl13⟩)
    (c13 : PySem.W.codeIn K (cd13) "moved_sum" = true)
    (k13 : PySem.W.keepIn K (.ref f13) = true)
    (a14 : PySem.W.nsIn K mainGlobals "is_counts" = some (some (.ref f14)))
    (l14 : K.lookup f14 = some ⟨oc14, od14, .func (PySem.W.fnOf "is_counts" "is_counts" (defArgs s_is_counts) (defBody s_is_counts) (defScope s_is_counts) .none kV14 dc14 pm14 an14 (cd14) ct14), sl14⟩)
    (c14 : PySem.W.codeIn K (cd14) "is_counts" = true)
    (k14 : PySem.W.keepIn K (.ref f14) = true)
    (a15 : PySem.W.nsIn K mainGlobals "judge_counts" = some (some (.ref f15)))
    (l15 : K.lookup f15 = some ⟨oc15, od15, .func (PySem.W.fnOf "judge_counts" "judge_counts" (defArgs s_judge_counts) (defBody s_judge_counts) (defScope s_judge_counts) .none kV15 dc15 pm15 an15 (cd15) ct15), sl15⟩)
    (c15 : PySem.W.codeIn K (cd15) "judge_counts" = true)
    (k15 : PySem.W.keepIn K (.ref f15) = true)
    (a16 : PySem.W.nsIn K mainGlobals "check_counts" = some (some (.ref f16)))
    (l16 : K.lookup f16 = some ⟨oc16, od16, .func (PySem.W.fnOf "check_counts" "check_counts" (defArgs s_check_counts) (defBody s_check_counts) (defScope s_check_counts) .none kV16 dc16 pm16 an16 (cd16) ct16), sl16⟩)
    (c16 : PySem.W.codeIn K (cd16) "check_counts" = true)
    (k16 : PySem.W.keepIn K (.ref f16) = true)
    (a17 : PySem.W.nsIn K mainGlobals "counts_certificates" = some (some (.ref f17)))
    (l17 : K.lookup f17 = some ⟨oc17, od17, .func (PySem.W.fnOf "counts_certificates" "counts_certificates" (defArgs s_counts_certificates) (defBody s_counts_certificates) (defScope s_counts_certificates) .none kV17 dc17 pm17 an17 (cd17) ct17), sl17⟩)
    (c17 : PySem.W.codeIn K (cd17) "counts_certificates" = true)
    (k17 : PySem.W.keepIn K (.ref f17) = true)
    (a18 : PySem.W.nsIn K mainGlobals "judge_row" = some (some (.ref f18)))
    (l18 : K.lookup f18 = some ⟨oc18, od18, .func (PySem.W.fnOf "judge_row" "judge_row" (defArgs s_judge_row) (defBody s_judge_row) (defScope s_judge_row) .none kV18 dc18 pm18 an18 (cd18) ct18), sl18⟩)
    (c18 : PySem.W.codeIn K (cd18) "judge_row" = true)
    (k18 : PySem.W.keepIn K (.ref f18) = true)
    (a19 : PySem.W.nsIn K mainGlobals "begins_with_1" = some (some (.ref f19)))
    (l19 : K.lookup f19 = some ⟨oc19, od19, .func (PySem.W.fnOf "begins_with_1" "begins_with_1" (defArgs s_begins_with_1) (defBody s_begins_with_1) (defScope s_begins_with_1) .none kV19 dc19 pm19 an19 (cd19) ct19), sl19⟩)
    (c19 : PySem.W.codeIn K (cd19) "begins_with_1" = true)
    (k19 : PySem.W.keepIn K (.ref f19) = true)
    (a20 : PySem.W.nsIn K mainGlobals "row_certificates" = some (some (.ref f20)))
    (l20 : K.lookup f20 = some ⟨oc20, od20, .func (PySem.W.fnOf "row_certificates" "row_certificates" (defArgs s_row_certificates) (defBody s_row_certificates) (defScope s_row_certificates) .none kV20 dc20 pm20 an20 (cd20) ct20), sl20⟩)
    (c20 : PySem.W.codeIn K (cd20) "row_certificates" = true)
    (k20 : PySem.W.keepIn K (.ref f20) = true)
    (a21 : PySem.W.nsIn K mainGlobals "judge_sound_counts" = some (some (.ref f21)))
    (l21 : K.lookup f21 = some ⟨oc21, od21, .func (PySem.W.fnOf "judge_sound_counts" "judge_sound_counts" (defArgs s_judge_sound_counts) (defBody s_judge_sound_counts) (defScope s_judge_sound_counts) .none kV21 dc21 pm21 an21 (cd21) ct21), sl21⟩)
    (c21 : PySem.W.codeIn K (cd21) "judge_sound_counts" = true)
    (k21 : PySem.W.keepIn K (.ref f21) = true)
    (a22 : PySem.W.nsIn K mainGlobals "judge_sphere" = some (some (.ref f22)))
    (l22 : K.lookup f22 = some ⟨oc22, od22, .func (PySem.W.fnOf "judge_sphere" "judge_sphere" (defArgs s_judge_sphere) (defBody s_judge_sphere) (defScope s_judge_sphere) .none kV22 dc22 pm22 an22 (cd22) ct22), sl22⟩)
    (c22 : PySem.W.codeIn K (cd22) "judge_sphere" = true)
    (k22 : PySem.W.keepIn K (.ref f22) = true)
    (a23 : PySem.W.nsIn K mainGlobals "judge_colours" = some (some (.ref f23)))
    (l23 : K.lookup f23 = some ⟨oc23, od23, .func (PySem.W.fnOf "judge_colours" "judge_colours" (defArgs s_judge_colours) (defBody s_judge_colours) (defScope s_judge_colours) .none kV23 dc23 pm23 an23 (cd23) ct23), sl23⟩)
    (c23 : PySem.W.codeIn K (cd23) "judge_colours" = true)
    (k23 : PySem.W.keepIn K (.ref f23) = true)
    (a24 : PySem.W.nsIn K mainGlobals "judge_rows" = some (some (.ref f24)))
    (l24 : K.lookup f24 = some ⟨oc24, od24, .func (PySem.W.fnOf "judge_rows" "judge_rows" (defArgs s_judge_rows) (defBody s_judge_rows) (defScope s_judge_rows) .none kV24 dc24 pm24 an24 (cd24) ct24), sl24⟩)
    (c24 : PySem.W.codeIn K (cd24) "judge_rows" = true)
    (k24 : PySem.W.keepIn K (.ref f24) = true)
    (a25 : PySem.W.nsIn K mainGlobals "is_ask" = some (some (.ref f25)))
    (l25 : K.lookup f25 = some ⟨oc25, od25, .func (PySem.W.fnOf "is_ask" "is_ask" (defArgs s_is_ask) (defBody s_is_ask) (defScope s_is_ask) .none kV25 dc25 pm25 an25 (cd25) ct25), sl25⟩)
    (c25 : PySem.W.codeIn K (cd25) "is_ask" = true)
    (k25 : PySem.W.keepIn K (.ref f25) = true)
    (a26 : PySem.W.nsIn K mainGlobals "is_answer" = some (some (.ref f26)))
    (l26 : K.lookup f26 = some ⟨oc26, od26, .func (PySem.W.fnOf "is_answer" "is_answer" (defArgs s_is_answer) (defBody s_is_answer) (defScope s_is_answer) .none kV26 dc26 pm26 an26 (cd26) ct26), sl26⟩)
    (c26 : PySem.W.codeIn K (cd26) "is_answer" = true)
    (k26 : PySem.W.keepIn K (.ref f26) = true)
    (a27 : PySem.W.nsIn K mainGlobals "ends_of" = some (some (.ref f27)))
    (l27 : K.lookup f27 = some ⟨oc27, od27, .func (PySem.W.fnOf "ends_of" "ends_of" (defArgs s_ends_of) (defBody s_ends_of) (defScope s_ends_of) .none kV27 dc27 pm27 an27 (cd27) ct27), sl27⟩)
    (c27 : PySem.W.codeIn K (cd27) "ends_of" = true)
    (k27 : PySem.W.keepIn K (.ref f27) = true)
    (a28 : PySem.W.nsIn K mainGlobals "check_ask" = some (some (.ref f28)))
    (l28 : K.lookup f28 = some ⟨oc28, od28, .func (PySem.W.fnOf "check_ask" "check_ask" (defArgs s_check_ask) (defBody s_check_ask) (defScope s_check_ask) .none kV28 dc28 pm28 an28 (cd28) ct28), sl28⟩)
    (c28 : PySem.W.codeIn K (cd28) "check_ask" = true)
    (k28 : PySem.W.keepIn K (.ref f28) = true)
    (a29 : PySem.W.nsIn K mainGlobals "is_gap_row" = some (some (.ref f29)))
    (l29 : K.lookup f29 = some ⟨oc29, od29, .func (PySem.W.fnOf "is_gap_row" "is_gap_row" (defArgs s_is_gap_row) (defBody s_is_gap_row) (defScope s_is_gap_row) .none kV29 dc29 pm29 an29 (cd29) ct29), sl29⟩)
    (c29 : PySem.W.codeIn K (cd29) "is_gap_row" = true)
    (k29 : PySem.W.keepIn K (.ref f29) = true)
    (a30 : PySem.W.nsIn K mainGlobals "rows_in" = some (some (.ref f30)))
    (l30 : K.lookup f30 = some ⟨oc30, od30, .func (PySem.W.fnOf "rows_in" "rows_in" (defArgs s_rows_in) (defBody s_rows_in) (defScope s_rows_in) .none kV30 dc30 pm30 an30 (cd30) ct30), sl30⟩)
    (c30 : PySem.W.codeIn K (cd30) "rows_in" = true)
    (k30 : PySem.W.keepIn K (.ref f30) = true)
    (a31 : PySem.W.nsIn K mainGlobals "many_gaps" = some (some (.ref f31)))
    (l31 : K.lookup f31 = some ⟨oc31, od31, .func (PySem.W.fnOf "many_gaps" "many_gaps" (defArgs s_many_gaps) (defBody s_many_gaps) (defScope s_many_gaps) .none kV31 dc31 pm31 an31 (cd31) ct31), sl31⟩)
    (c31 : PySem.W.codeIn K (cd31) "many_gaps" = true)
    (k31 : PySem.W.keepIn K (.ref f31) = true)
    (a32 : PySem.W.nsIn K mainGlobals "filled" = some (some (.ref f32)))
    (l32 : K.lookup f32 = some ⟨oc32, od32, .func (PySem.W.fnOf "filled" "filled" (defArgs s_filled) (defBody s_filled) (defScope s_filled) .none kV32 dc32 pm32 an32 (cd32) ct32), sl32⟩)
    (c32 : PySem.W.codeIn K (cd32) "filled" = true)
    (k32 : PySem.W.keepIn K (.ref f32) = true)
    (a33 : PySem.W.nsIn K mainGlobals "is_fit" = some (some (.ref f33)))
    (l33 : K.lookup f33 = some ⟨oc33, od33, .func (PySem.W.fnOf "is_fit" "is_fit" (defArgs s_is_fit) (defBody s_is_fit) (defScope s_is_fit) .none kV33 dc33 pm33 an33 (cd33) ct33), sl33⟩)
    (c33 : PySem.W.codeIn K (cd33) "is_fit" = true)
    (k33 : PySem.W.keepIn K (.ref f33) = true)
    (a34 : PySem.W.nsIn K mainGlobals "certificate_for" = some (some (.ref f34)))
    (l34 : K.lookup f34 = some ⟨oc34, od34, .func (PySem.W.fnOf "certificate_for" "certificate_for" (defArgs s_certificate_for) (defBody s_certificate_for) (defScope s_certificate_for) .none kV34 dc34 pm34 an34 (cd34) ct34), sl34⟩)
    (c34 : PySem.W.codeIn K (cd34) "certificate_for" = true)
    (k34 : PySem.W.keepIn K (.ref f34) = true)
    (a35 : PySem.W.nsIn K mainGlobals "ends_of_sets" = some (some (.ref f35)))
    (l35 : K.lookup f35 = some ⟨oc35, od35, .func (PySem.W.fnOf "ends_of_sets" "ends_of_sets" (defArgs s_ends_of_sets) (defBody s_ends_of_sets) (defScope s_ends_of_sets) .none kV35 dc35 pm35 an35 (cd35) ct35), sl35⟩)
    (c35 : PySem.W.codeIn K (cd35) "ends_of_sets" = true)
    (k35 : PySem.W.keepIn K (.ref f35) = true)
    (a36 : PySem.W.nsIn K mainGlobals "ends_of_products" = some (some (.ref f36)))
    (l36 : K.lookup f36 = some ⟨oc36, od36, .func (PySem.W.fnOf "ends_of_products" "ends_of_products" (defArgs s_ends_of_products) (defBody s_ends_of_products) (defScope s_ends_of_products) .none kV36 dc36 pm36 an36 (cd36) ct36), sl36⟩)
    (c36 : PySem.W.codeIn K (cd36) "ends_of_products" = true)
    (k36 : PySem.W.keepIn K (.ref f36) = true)
    (a37 : PySem.W.nsIn K mainGlobals "_law_deck" = some (some (.ref f37)))
    (l37 : K.lookup f37 = some ⟨oc37, od37, .func (PySem.W.fnOf "_law_deck" "_law_deck" (defArgs s_l_deck) (defBody s_l_deck) (defScope s_l_deck) .none kV37 dc37 pm37 an37 (cd37) ct37), sl37⟩)
    (c37 : PySem.W.codeIn K (cd37) "_law_deck" = true)
    (k37 : PySem.W.keepIn K (.ref f37) = true)
    (a38 : PySem.W.nsIn K mainGlobals "_law_draw" = some (some (.ref f38)))
    (l38 : K.lookup f38 = some ⟨oc38, od38, .func (PySem.W.fnOf "_law_draw" "_law_draw" (defArgs s_l_draw) (defBody s_l_draw) (defScope s_l_draw) .none kV38 dc38 pm38 an38 (cd38) ct38), sl38⟩)
    (c38 : PySem.W.codeIn K (cd38) "_law_draw" = true)
    (k38 : PySem.W.keepIn K (.ref f38) = true)
    (a39 : PySem.W.nsIn K mainGlobals "_law_pick" = some (some (.ref f39)))
    (l39 : K.lookup f39 = some ⟨oc39, od39, .func (PySem.W.fnOf "_law_pick" "_law_pick" (defArgs s_l_pick) (defBody s_l_pick) (defScope s_l_pick) .none kV39 dc39 pm39 an39 (cd39) ct39), sl39⟩)
    (c39 : PySem.W.codeIn K (cd39) "_law_pick" = true)
    (k39 : PySem.W.keepIn K (.ref f39) = true)
    (a40 : PySem.W.nsIn K mainGlobals "_law_choose" = some (some (.ref f40)))
    (l40 : K.lookup f40 = some ⟨oc40, od40, .func (PySem.W.fnOf "_law_choose" "_law_choose" (defArgs s_l_choose) (defBody s_l_choose) (defScope s_l_choose) .none kV40 dc40 pm40 an40 (cd40) ct40), sl40⟩)
    (c40 : PySem.W.codeIn K (cd40) "_law_choose" = true)
    (k40 : PySem.W.keepIn K (.ref f40) = true)
    (a41 : PySem.W.nsIn K mainGlobals "_law_greatest" = some (some (.ref f41)))
    (l41 : K.lookup f41 = some ⟨oc41, od41, .func (PySem.W.fnOf "_law_greatest" "_law_greatest" (defArgs s_l_greatest) (defBody s_l_greatest) (defScope s_l_greatest) .none kV41 dc41 pm41 an41 (cd41) ct41), sl41⟩)
    (c41 : PySem.W.codeIn K (cd41) "_law_greatest" = true)
    (k41 : PySem.W.keepIn K (.ref f41) = true)
    (a42 : PySem.W.nsIn K mainGlobals "_law_cascade" = some (some (.ref f42)))
    (l42 : K.lookup f42 = some ⟨oc42, od42, .func (PySem.W.fnOf "_law_cascade" "_law_cascade" (defArgs s_l_cascade) (defBody s_l_cascade) (defScope s_l_cascade) .none kV42 dc42 pm42 an42 (cd42) ct42), sl42⟩)
    (c42 : PySem.W.codeIn K (cd42) "_law_cascade" = true)
    (k42 : PySem.W.keepIn K (.ref f42) = true)
    (a43 : PySem.W.nsIn K mainGlobals "_law_lower_sets" = some (some (.ref f43)))
    (l43 : K.lookup f43 = some ⟨oc43, od43, .func (PySem.W.fnOf "_law_lower_sets" "_law_lower_sets" (defArgs s_l_lower_sets) (defBody s_l_lower_sets) (defScope s_l_lower_sets) .none kV43 dc43 pm43 an43 (cd43) ct43), sl43⟩)
    (c43 : PySem.W.codeIn K (cd43) "_law_lower_sets" = true)
    (k43 : PySem.W.keepIn K (.ref f43) = true)
    (a44 : PySem.W.nsIn K mainGlobals "_law_upper_products" = some (some (.ref f44)))
    (l44 : K.lookup f44 = some ⟨oc44, od44, .func (PySem.W.fnOf "_law_upper_products" "_law_upper_products" (defArgs s_l_upper_products) (defBody s_l_upper_products) (defScope s_l_upper_products) .none kV44 dc44 pm44 an44 (cd44) ct44), sl44⟩)
    (c44 : PySem.W.codeIn K (cd44) "_law_upper_products" = true)
    (k44 : PySem.W.keepIn K (.ref f44) = true)
    (a45 : PySem.W.nsIn K mainGlobals "_law_upper_sets" = some (some (.ref f45)))
    (l45 : K.lookup f45 = some ⟨oc45, od45, .func (PySem.W.fnOf "_law_upper_sets" "_law_upper_sets" (defArgs s_l_upper_sets) (defBody s_l_upper_sets) (defScope s_l_upper_sets) .none kV45 dc45 pm45 an45 (cd45) ct45), sl45⟩)
    (c45 : PySem.W.codeIn K (cd45) "_law_upper_sets" = true)
    (k45 : PySem.W.keepIn K (.ref f45) = true)
    (a46 : PySem.W.nsIn K mainGlobals "_law_lower_products" = some (some (.ref f46)))
    (l46 : K.lookup f46 = some ⟨oc46, od46, .func (PySem.W.fnOf "_law_lower_products" "_law_lower_products" (defArgs s_l_lower_products) (defBody s_l_lower_products) (defScope s_l_lower_products) .none kV46 dc46 pm46 an46 (cd46) ct46), sl46⟩)
    (c46 : PySem.W.codeIn K (cd46) "_law_lower_products" = true)
    (k46 : PySem.W.keepIn K (.ref f46) = true)
    (a47 : PySem.W.nsIn K mainGlobals "_law_row" = some (some (.ref f47)))
    (l47 : K.lookup f47 = some ⟨oc47, od47, .func (PySem.W.fnOf "_law_row" "_law_row" (defArgs s_l_row) (defBody s_l_row) (defScope s_l_row) .none kV47 dc47 pm47 an47 (cd47) ct47), sl47⟩)
    (c47 : PySem.W.codeIn K (cd47) "_law_row" = true)
    (k47 : PySem.W.keepIn K (.ref f47) = true)
    (a48 : PySem.W.nsIn K mainGlobals "_law_ends" = some (some (.ref f48)))
    (l48 : K.lookup f48 = some ⟨oc48, od48, .func (PySem.W.fnOf "_law_ends" "_law_ends" (defArgs s_l_ends) (defBody s_l_ends) (defScope s_l_ends) .none kV48 dc48 pm48 an48 (cd48) ct48), sl48⟩)
    (c48 : PySem.W.codeIn K (cd48) "_law_ends" = true)
    (k48 : PySem.W.keepIn K (.ref f48) = true)
    (a49 : PySem.W.nsIn K mainGlobals "_law_is_right" = some (some (.ref f49)))
    (l49 : K.lookup f49 = some ⟨oc49, od49, .func (PySem.W.fnOf "_law_is_right" "_law_is_right" (defArgs s_l_is_right) (defBody s_l_is_right) (defScope s_l_is_right) .none kV49 dc49 pm49 an49 (cd49) ct49), sl49⟩)
    (c49 : PySem.W.codeIn K (cd49) "_law_is_right" = true)
    (k49 : PySem.W.keepIn K (.ref f49) = true)
    (a50 : PySem.W.nsIn K mainGlobals "_law_are_numbers_right" = some (some (.ref f50)))
    (l50 : K.lookup f50 = some ⟨oc50, od50, .func (PySem.W.fnOf "_law_are_numbers_right" "_law_are_numbers_right" (defArgs s_l_are_numbers_right) (defBody s_l_are_numbers_right) (defScope s_l_are_numbers_right) .none kV50 dc50 pm50 an50 (cd50) ct50), sl50⟩)
    (c50 : PySem.W.codeIn K (cd50) "_law_are_numbers_right" = true)
    (k50 : PySem.W.keepIn K (.ref f50) = true)
    (a51 : PySem.W.nsIn K mainGlobals "_law_is_refused" = some (some (.ref f51)))
    (l51 : K.lookup f51 = some ⟨oc51, od51, .func (PySem.W.fnOf "_law_is_refused" "_law_is_refused" (defArgs s_l_is_refused) (defBody s_l_is_refused) (defScope s_l_is_refused) .none kV51 dc51 pm51 an51 (cd51) ct51), sl51⟩)
    (c51 : PySem.W.codeIn K (cd51) "_law_is_refused" = true)
    (k51 : PySem.W.keepIn K (.ref f51) = true)
    (a52 : PySem.W.nsIn K mainGlobals "law" = some (some (.ref f52)))
    (l52 : K.lookup f52 = some ⟨oc52, od52, .func (PySem.W.fnOf "law" "law" (defArgs s_law) (defBody s_law) (defScope s_law) .none kV52 dc52 pm52 an52 (cd52) ct52), sl52⟩)
    (c52 : PySem.W.codeIn K (cd52) "law" = true)
    (k52 : PySem.W.keepIn K (.ref f52) = true)
    (y0 : PySem.W.nsIn K mainGlobals "MOST_COLOURS" = some (some (.int 8 tk0)))
    (y1 : PySem.W.nsIn K mainGlobals "MOST_COUNTS" = some (some (.int 16 tk1)))
    (y2 : PySem.W.nsIn K mainGlobals "MOST_GAPS" = some (some (.int 2 tk2)))
    (aD0 : PySem.W.nsIn K mainGlobals "ASKS" = some (some (.ref AD0)))
    (lD0 : List.lookup AD0 K = some { cls := .type "dict", data := .dict eD0 nD0 })
    (kD0_0 : PySem.W.nsIn K AD0 "sets" = some (some (.int 2 tD0_0)))
    (kD0_1 : PySem.W.nsIn K AD0 "sound" = some (some (.int 2 tD0_1)))
    (kD0_2 : PySem.W.nsIn K AD0 "spheres" = some (some (.int 2 tD0_2)))
    (kD0_3 : PySem.W.nsIn K AD0 "coloured" = some (some (.int 3 tD0_3)))
    (kD0_4 : PySem.W.nsIn K AD0 "products" = some (some (.int 2 tD0_4)))
    (kD0_5 : PySem.W.nsIn K AD0 "holes" = some (some (.int 3 tD0_5)))
    (fD0 : PySem.W.KeysLit w.params eD0.toList)
    (oD0 : (AD0 == PySem.sysModules) = false)
    (z0 : PySem.W.nsIn K mainGlobals "all" = some none)
    (z1 : PySem.W.nsIn K mainGlobals "bool" = some none)
    (z2 : PySem.W.nsIn K mainGlobals "enumerate" = some none)
    (z3 : PySem.W.nsIn K mainGlobals "int" = some none)
    (z4 : PySem.W.nsIn K mainGlobals "isinstance" = some none)
    (z5 : PySem.W.nsIn K mainGlobals "len" = some none)
    (z6 : PySem.W.nsIn K mainGlobals "list" = some none)
    (z7 : PySem.W.nsIn K mainGlobals "max" = some none)
    (z8 : PySem.W.nsIn K mainGlobals "min" = some none)
    (z9 : PySem.W.nsIn K mainGlobals "range" = some none)
    (z10 : PySem.W.nsIn K mainGlobals "repr" = some none)
    (z11 : PySem.W.nsIn K mainGlobals "str" = some none)
    (z12 : PySem.W.nsIn K mainGlobals "sum" = some none)
    (z13 : PySem.W.nsIn K mainGlobals "tuple" = some none)
    (z14 : PySem.W.nsIn K mainGlobals "zip" = some none)
    (zc : PySem.W.nsIn K mainGlobals "comb" = some (some (.builtin "math.comb")))
    (aT : PySem.W.nsIn K mainGlobals "CountError" = some (some (.ref CT)))
    (iT : PySem.W.isClsIn K CT = true)
    (tT : PySem.W.typeIn K (.ref CT) = some (.type "type"))
    (eT : PySem.W.subIn K (.ref CT) (.type "BaseException") = some true)
    (hT : PySem.W.hasDictIn K CT = true)
    (sT : PySem.W.subIn K (.ref CT) (.ref CT) = some true)
    (sg : PySem.W.specialIn K (.builtin "object.__class__") "__get__" = some (some (.builtin "getset_descriptor.__get__")))
    (tkk : PySem.W.takesIn K (.builtin "object.__class__") = some true)
    (xA0 : PySem.W.nsIn K mainGlobals "BadAsk" = some (some (.ref X0)))
    (xL0 : K.lookup X0 = some (excClassObj xn0 xq0 X0 xN0 xb0 [.ref CT, .type "Exception", .type "BaseException", .type "object"] true xs0 xu0 xa0 xc0 xd0 w0a w0b w0c w0d w0e "Exception.__new__"))
    (xsa0 : PySem.W.findIn K (.ref X0) "__setattr__" = some (some (.builtin "object.__setattr__")))
    (xga0 : PySem.W.findIn K (.ref X0) "__getattribute__" = some (some (.builtin "BaseException.__getattribute__")))
    (xgg0 : PySem.W.findIn K (.ref X0) "__getattr__" = some none)
    (xnb0 : PySem.W.findIn K (.ref X0) "thing" = some none)
    (xi0 : PySem.W.findIn K (.ref X0) "__init__" = some (some (.ref J0)))
    (xt0 : PySem.W.typeIn K (.ref J0) = some (.type "function"))
    (xl0 : K.lookup J0 = some ⟨ro0, re0, .func (PySem.W.fnOf "__init__" "BadAsk.__init__" (iA g0a g0b) (iB g0c g0d g0e g0f) iS .none .none rd0 rp0 ra0 rc0 rt0), rs0⟩)
    (xcd0 : PySem.W.codeIn K rc0 "BadAsk.__init__" = true)
    (xk0 : PySem.W.keepIn K (.ref X0) = true)
    (iX0 : PySem.W.isClsIn K X0 = true)
    (tX0 : PySem.W.typeIn K (.ref X0) = some (.type "type"))
    (eX0 : PySem.W.subIn K (.ref X0) (.type "BaseException") = some true)
    (hX0 : PySem.W.hasDictIn K X0 = true)
    (sX0 : PySem.W.subIn K (.ref X0) (.ref X0) = some true)
    (xkc0 : PySem.W.findIn K (.ref X0) "__class__" = some (some (.builtin "object.__class__")))
    (xmo0 : PySem.W.mroIn K X0 (.type "object") = some true)
    (xu0T : PySem.W.subIn K (.ref X0) (.ref CT) = some true) :
    Hr.LawT l w K 12 63 "script" mg fa h := by
  have G := Tp.g
  have e := hfa.symm.trans (PySem.W.mg_of X G a52)
  cases e
  have F0 := fun_mk (st := s_is_integer) l0 c0 k0
  have b0 := F0.binds (ps := ["thing"]) fun _ _ _ _ _ _ us hl => match us, hl with | [_], _ => rfl
  have F1 := fun_mk (st := s_is_integer_from) l1 c1 k1
  have b1 := F1.binds (ps := ["thing", "least"]) fun _ _ _ _ _ _ us hl => match us, hl with | [_, _], _ => rfl
  have F2 := fun_mk (st := s_are_integers_from) l2 c2 k2
  have b2 := F2.binds (ps := ["thing", "least"]) fun _ _ _ _ _ _ us hl => match us, hl with | [_, _], _ => rfl
  have F3 := fun_mk (st := s_is_just) l3 c3 k3
  have b3 := F3.binds (ps := ["thing", "right"]) fun _ _ _ _ _ _ us hl => match us, hl with | [_, _], _ => rfl
  have F4 := fun_mk (st := s_cascade_of) l4 c4 k4
  have b4 := F4.binds (ps := ["number", "size"]) fun _ _ _ _ _ _ us hl => match us, hl with | [_, _], _ => rfl
  have F5 := fun_mk (st := s_lower_sets) l5 c5 k5
  have b5 := F5.binds (ps := ["number", "size"]) fun _ _ _ _ _ _ us hl => match us, hl with | [_, _], _ => rfl
  have F6 := fun_mk (st := s_upper_sets) l6 c6 k6
  have b6 := F6.binds (ps := ["number", "size"]) fun _ _ _ _ _ _ us hl => match us, hl with | [_, _], _ => rfl
  have F7 := fun_mk (st := s_lower_products) l7 c7 k7
  have b7 := F7.binds (ps := ["number", "size"]) fun _ _ _ _ _ _ us hl => match us, hl with | [_, _], _ => rfl
  have F8 := fun_mk (st := s_upper_products) l8 c8 k8
  have b8 := F8.binds (ps := ["number", "size"]) fun _ _ _ _ _ _ us hl => match us, hl with | [_, _], _ => rfl
  have F9 := fun_mk (st := s_check_number) l9 c9 k9
  have b9 := F9.binds (ps := ["number"]) fun _ _ _ _ _ _ us hl => match us, hl with | [_], _ => rfl
  have F10 := fun_mk (st := s_check_size) l10 c10 k10
  have b10 := F10.binds (ps := ["size"]) fun _ _ _ _ _ _ us hl => match us, hl with | [_], _ => rfl
  have F11 := fun_mk (st := s_greatest_top) l11 c11 k11
  have b11 := F11.binds (ps := ["number", "size"]) fun _ _ _ _ _ _ us hl => match us, hl with | [_, _], _ => rfl
  have F12 := fun_mk (st := s_greatest_within) l12 c12 k12
  have b12 := F12.binds (ps := ["number", "least", "count_at"]) fun _ _ _ _ _ _ us hl => match us, hl with | [_, _, _], _ => rfl
  have F13 := fun_mk (st := s_moved_sum) l13 c13 k13
  have b13 := F13.binds (ps := ["size", "cascade", "more_things", "more_size"]) fun _ _ _ _ _ _ us hl => match us, hl with | [_, _, _, _], _ => rfl
  have F14 := fun_mk (st := s_is_counts) l14 c14 k14
  have b14 := F14.binds (ps := ["thing"]) fun _ _ _ _ _ _ us hl => match us, hl with | [_], _ => rfl
  have F15 := fun_mk (st := s_judge_counts) l15 c15 k15
  have b15 := F15.binds (ps := ["counts"]) fun _ _ _ _ _ _ us hl => match us, hl with | [_], _ => rfl
  have F16 := fun_mk (st := s_check_counts) l16 c16 k16
  have b16 := F16.binds (ps := ["counts"]) fun _ _ _ _ _ _ us hl => match us, hl with | [_], _ => rfl
  have F17 := fun_mk (st := s_counts_certificates) l17 c17 k17
  have b17 := F17.binds (ps := ["counts"]) fun _ _ _ _ _ _ us hl => match us, hl with | [_], _ => rfl
  have F18 := fun_mk (st := s_judge_row) l18 c18 k18
  have b18 := F18.binds (ps := ["row"]) fun _ _ _ _ _ _ us hl => match us, hl with | [_], _ => rfl
  have F19 := fun_mk (st := s_begins_with_1) l19 c19 k19
  have b19 := F19.binds (ps := ["thing"]) fun _ _ _ _ _ _ us hl => match us, hl with | [_], _ => rfl
  have F20 := fun_mk (st := s_row_certificates) l20 c20 k20
  have b20 := F20.binds (ps := ["row"]) fun _ _ _ _ _ _ us hl => match us, hl with | [_], _ => rfl
  have F21 := fun_mk (st := s_judge_sound_counts) l21 c21 k21
  have b21 := F21.binds (ps := ["counts"]) fun _ _ _ _ _ _ us hl => match us, hl with | [_], _ => rfl
  have F22 := fun_mk (st := s_judge_sphere) l22 c22 k22
  have b22 := F22.binds (ps := ["counts"]) fun _ _ _ _ _ _ us hl => match us, hl with | [_], _ => rfl
  have F23 := fun_mk (st := s_judge_colours) l23 c23 k23
  have b23 := F23.binds (ps := ["counts", "r"]) fun _ _ _ _ _ _ us hl => match us, hl with | [_, _], _ => rfl
  have F24 := fun_mk (st := s_judge_rows) l24 c24 k24
  have b24 := F24.binds (ps := ["counts", "holes"]) fun _ _ _ _ _ _ us hl => match us, hl with | [_, _], _ => rfl
  have F25 := fun_mk (st := s_is_ask) l25 c25 k25
  have b25 := F25.binds (ps := ["thing"]) fun _ _ _ _ _ _ us hl => match us, hl with | [_], _ => rfl
  have F26 := fun_mk (st := s_is_answer) l26 c26 k26
  have b26 := F26.binds (ps := ["ask", "thing"]) fun _ _ _ _ _ _ us hl => match us, hl with | [_, _], _ => rfl
  have F27 := fun_mk (st := s_ends_of) l27 c27 k27
  have b27 := F27.binds (ps := ["ask"]) fun _ _ _ _ _ _ us hl => match us, hl with | [_], _ => rfl
  have F28 := fun_mk (st := s_check_ask) l28 c28 k28
  have b28 := F28.binds (ps := ["ask"]) fun _ _ _ _ _ _ us hl => match us, hl with | [_], _ => rfl
  have F29 := fun_mk (st := s_is_gap_row) l29 c29 k29
  have b29 := F29.binds (ps := ["thing"]) fun _ _ _ _ _ _ us hl => match us, hl with | [_], _ => rfl
  have F30 := fun_mk (st := s_rows_in) l30 c30 k30
  have b30 := F30.binds (ps := ["ask"]) fun _ _ _ _ _ _ us hl => match us, hl with | [_], _ => rfl
  have F31 := fun_mk (st := s_many_gaps) l31 c31 k31
  have b31 := F31.binds (ps := ["ask"]) fun _ _ _ _ _ _ us hl => match us, hl with | [_], _ => rfl
  have F32 := fun_mk (st := s_filled) l32 c32 k32
  have b32 := F32.binds (ps := ["ask", "numbers"]) fun _ _ _ _ _ _ us hl => match us, hl with | [_, _], _ => rfl
  have F33 := fun_mk (st := s_is_fit) l33 c33 k33
  have b33 := F33.binds (ps := ["ask", "numbers"]) fun _ _ _ _ _ _ us hl => match us, hl with | [_, _], _ => rfl
  have F34 := fun_mk (st := s_certificate_for) l34 c34 k34
  have b34 := F34.binds (ps := ["ask", "rows"]) fun _ _ _ _ _ _ us hl => match us, hl with | [_, _], _ => rfl
  have F35 := fun_mk (st := s_ends_of_sets) l35 c35 k35
  have b35 := F35.binds (ps := ["row", "place"]) fun _ _ _ _ _ _ us hl => match us, hl with | [_, _], _ => rfl
  have F36 := fun_mk (st := s_ends_of_products) l36 c36 k36
  have b36 := F36.binds (ps := ["row", "place"]) fun _ _ _ _ _ _ us hl => match us, hl with | [_, _], _ => rfl
  have F37 := fun_mk (st := s_l_deck) l37 c37 k37
  have b37 := F37.binds (ps := ["script"]) fun _ _ _ _ _ _ us hl => match us, hl with | [_], _ => rfl
  have F38 := fun_mk (st := s_l_draw) l38 c38 k38
  have b38 := F38.binds (ps := ["deck", "many"]) fun _ _ _ _ _ _ us hl => match us, hl with | [_, _], _ => rfl
  have F39 := fun_mk (st := s_l_pick) l39 c39 k39
  have b39 := F39.binds (ps := ["deck", "some"]) fun _ _ _ _ _ _ us hl => match us, hl with | [_, _], _ => rfl
  have F40 := fun_mk (st := s_l_choose) l40 c40 k40
  have b40 := F40.binds (ps := ["a", "b"]) fun _ _ _ _ _ _ us hl => match us, hl with | [_, _], _ => rfl
  have F41 := fun_mk (st := s_l_greatest) l41 c41 k41
  have b41 := F41.binds (ps := ["n", "s"]) fun _ _ _ _ _ _ us hl => match us, hl with | [_, _], _ => rfl
  have F42 := fun_mk (st := s_l_cascade) l42 c42 k42
  have b42 := F42.binds (ps := ["n", "s"]) fun _ _ _ _ _ _ us hl => match us, hl with | [_, _], _ => rfl
  have F43 := fun_mk (st := s_l_lower_sets) l43 c43 k43
  have b43 := F43.binds (ps := ["n", "s"]) fun _ _ _ _ _ _ us hl => match us, hl with | [_, _], _ => rfl
  have F44 := fun_mk (st := s_l_upper_products) l44 c44 k44
  have b44 := F44.binds (ps := ["n", "s"]) fun _ _ _ _ _ _ us hl => match us, hl with | [_, _], _ => rfl
  have F45 := fun_mk (st := s_l_upper_sets) l45 c45 k45
  have b45 := F45.binds (ps := ["n", "s"]) fun _ _ _ _ _ _ us hl => match us, hl with | [_, _], _ => rfl
  have F46 := fun_mk (st := s_l_lower_products) l46 c46 k46
  have b46 := F46.binds (ps := ["n", "s"]) fun _ _ _ _ _ _ us hl => match us, hl with | [_, _], _ => rfl
  have F47 := fun_mk (st := s_l_row) l47 c47 k47
  have b47 := F47.binds (ps := ["deck", "word"]) fun _ _ _ _ _ _ us hl => match us, hl with | [_, _], _ => rfl
  have F48 := fun_mk (st := s_l_ends) l48 c48 k48
  have b48 := F48.binds (ps := ["word", "row", "at"]) fun _ _ _ _ _ _ us hl => match us, hl with | [_, _, _], _ => rfl
  have F49 := fun_mk (st := s_l_is_right) l49 c49 k49
  have b49 := F49.binds (ps := ["deck", "word", "row"]) fun _ _ _ _ _ _ us hl => match us, hl with | [_, _, _], _ => rfl
  have F50 := fun_mk (st := s_l_are_numbers_right) l50 c50 k50
  have b50 := F50.binds (ps := ["word", "row", "at", "ends"]) fun _ _ _ _ _ _ us hl => match us, hl with | [_, _, _, _], _ => rfl
  have F51 := fun_mk (st := s_l_is_refused) l51 c51 k51
  have b51 := F51.binds (ps := ["ask"]) fun _ _ _ _ _ _ us hl => match us, hl with | [_], _ => rfl
  have F52 := fun_mk (st := s_law) l52 c52 k52
  have b52 := F52.binds (ps := ["script"]) fun _ _ _ _ _ _ us hl => match us, hl with | [_], _ => rfl
  have DA0 : KDict K w AD0 eD0 nD0 := ⟨lD0, fD0, oD0⟩
  have O0 : OwnC K X0 := ⟨iX0, tX0, eX0, hX0, sX0⟩
  have E0 : ExTxt K mg "BadAsk" X0 J0 := { gC := PySem.W.mg_of X G xA0, cls := ⟨_, _, _, _, _, _, _, _, _, _, _, _, _, _, _, xL0, by rfl⟩, sa := xsa0, ga := xga0, gg := xgg0, noN := xnb0, iC := xi0, tC := xt0, kC := xk0, exC := eX0, tyC := tX0, hdC := hX0, te := O0.exm sX0, fn := ⟨_, _, _, _, _, _, _, _, _, _, _, _, _, _, _, xl0, xcd0⟩ }
  let T : Txt K mg := ⟨f0, _, F0, PySem.W.mg_of X G a0, b0, f1, _, F1, PySem.W.mg_of X G a1, b1, f2, _, F2, PySem.W.mg_of X G a2, b2, f3, _, F3, PySem.W.mg_of X G a3, b3, f4, _, F4, PySem.W.mg_of X G a4, b4, f5, _, F5, PySem.W.mg_of X G a5, b5, f6, _, F6, PySem.W.mg_of X G a6, b6, f7, _, F7, PySem.W.mg_of X G a7, b7, f8, _, F8, PySem.W.mg_of X G a8, b8, f9, _, F9, PySem.W.mg_of X G a9, b9, f10, _, F10, PySem.W.mg_of X G a10, b10, f11, _, F11, PySem.W.mg_of X G a11, b11, f12, _, F12, PySem.W.mg_of X G a12, b12, f13, _, F13, PySem.W.mg_of X G a13, b13, f14, _, F14, PySem.W.mg_of X G a14, b14, f15, _, F15, PySem.W.mg_of X G a15, b15, f16, _, F16, PySem.W.mg_of X G a16, b16, f17, _, F17, PySem.W.mg_of X G a17, b17, f18, _, F18, PySem.W.mg_of X G a18, b18, f19, _, F19, PySem.W.mg_of X G a19, b19, f20, _, F20, PySem.W.mg_of X G a20, b20, f21, _, F21, PySem.W.mg_of X G a21, b21, f22, _, F22, PySem.W.mg_of X G a22, b22, f23, _, F23, PySem.W.mg_of X G a23, b23, f24, _, F24, PySem.W.mg_of X G a24, b24, f25, _, F25, PySem.W.mg_of X G a25, b25, f26, _, F26, PySem.W.mg_of X G a26, b26, f27, _, F27, PySem.W.mg_of X G a27, b27, f28, _, F28, PySem.W.mg_of X G a28, b28, f29, _, F29, PySem.W.mg_of X G a29, b29, f30, _, F30, PySem.W.mg_of X G a30, b30, f31, _, F31, PySem.W.mg_of X G a31, b31, f32, _, F32, PySem.W.mg_of X G a32, b32, f33, _, F33, PySem.W.mg_of X G a33, b33, f34, _, F34, PySem.W.mg_of X G a34, b34, f35, _, F35, PySem.W.mg_of X G a35, b35, f36, _, F36, PySem.W.mg_of X G a36, b36, f37, _, F37, PySem.W.mg_of X G a37, b37, f38, _, F38, PySem.W.mg_of X G a38, b38, f39, _, F39, PySem.W.mg_of X G a39, b39, f40, _, F40, PySem.W.mg_of X G a40, b40, f41, _, F41, PySem.W.mg_of X G a41, b41, f42, _, F42, PySem.W.mg_of X G a42, b42, f43, _, F43, PySem.W.mg_of X G a43, b43, f44, _, F44, PySem.W.mg_of X G a44, b44, f45, _, F45, PySem.W.mg_of X G a45, b45, f46, _, F46, PySem.W.mg_of X G a46, b46, f47, _, F47, PySem.W.mg_of X G a47, b47, f48, _, F48, PySem.W.mg_of X G a48, b48, f49, _, F49, PySem.W.mg_of X G a49, b49, f50, _, F50, PySem.W.mg_of X G a50, b50, f51, _, F51, PySem.W.mg_of X G a51, b51, fa, _, F52, PySem.W.mg_of X G a52, b52, tk0, PySem.W.mg_of X G y0, tk1, PySem.W.mg_of X G y1, tk2, PySem.W.mg_of X G y2, AD0, PySem.W.mg_of X G aD0, tD0_0, kD0_0, tD0_1, kD0_1, tD0_2, kD0_2, tD0_3, kD0_3, tD0_4, kD0_4, tD0_5, kD0_5, PySem.W.mg_none_of X G z0, PySem.W.mg_none_of X G z1, PySem.W.mg_none_of X G z2, PySem.W.mg_none_of X G z3, PySem.W.mg_none_of X G z4, PySem.W.mg_none_of X G z5, PySem.W.mg_none_of X G z6, PySem.W.mg_none_of X G z7, PySem.W.mg_none_of X G z8, PySem.W.mg_none_of X G z9, PySem.W.mg_none_of X G z10, PySem.W.mg_none_of X G z11, PySem.W.mg_none_of X G z12, PySem.W.mg_none_of X G z13, PySem.W.mg_none_of X G z14, PySem.W.mg_of X G zc, X0, J0, E0, ⟨O0, xga0, xgg0, xkc0, xmo0, sg, tkk⟩, CT, PySem.W.mg_of X G aT, ⟨iT, tT, eT, hT, sT⟩, xu0T, lc0, P0, rfl⟩
  have CH := PySem.W.codeHd_of_K X ch0
  have hT := ht0
  exact ⟨T.d_law, [(lc0, P0)], sp_law K P0, (fun p hp => by rw [List.mem_singleton.mp hp]; exact hT), (fun p hp => by rw [List.mem_singleton.mp hp]; exact np0), (fun p hp => by rw [List.mem_singleton.mp hp]; exact CH), (fun s v => .of_eq rfl), (fun H a ns hl hP hS => ⟨a, ns, rfl, hS, hl, hP _ (List.mem_singleton.mpr rfl), fun _ => rfl⟩), fun base _ _ TB => ok_law T DA0 (TB _ (List.mem_singleton.mpr rfl))⟩
end K88
open PySem PySem.W PyProof.Rows in
set_option maxRecDepth 100000 in
set_option maxHeartbeats 0 in
theorem PySem.Challenge.cw_holerows_k88_the_ends_of_answers_holds : PySem.Challenge.rw_holerows_k88_the_ends_of_answers.Holds := by
  w_on; o_law; k_head; (case hw => w_witness2)
  k_fill
  refine Hr.walkT (l := PySem.Challenge.rw_holerows_k88_the_ends_of_answers) (n := 63) (k := 12) (x := "script") rfl (by decide) rfl ⟨rfl, by decide, by decide⟩ (fun w h Y => PySem.W.km_in_of Y) ?F
  case F =>
    intro w mg mb fa h lo me Y KX Tp hmg
    refine' K88.all_mk KX Tp hmg ?a0 ?l0 ?c0 ?k0 ?a1 ?l1 ?c1 ?k1 ?a2 ?l2 ?c2 ?k2 ?a3 ?l3 ?c3 ?k3 ?a4 ?l4 ?c4 ?k4 ?a5 ?l5 ?c5 ?k5 ?a6 ?l6 ?c6 ?k6 ?a7 ?l7 ?c7 ?k7 ?a8 ?l8 ?c8 ?k8 ?a9 ?l9 ?c9 ?k9 ?a10 ?l10 ?c10 ?k10 ?a11 ?l11 ?c11 ?k11 ?lk0 ?hv0 ?np0 ?ch0 ?ht0 ?a12 ?l12 ?c12 ?k12 ?a13 ?l13 ?c13 ?k13 ?a14 ?l14 ?c14 ?k14 ?a15 ?l15 ?c15 ?k15 ?a16 ?l16 ?c16 ?k16 ?a17 ?l17 ?c17 ?k17 ?a18 ?l18 ?c18 ?k18 ?a19 ?l19 ?c19 ?k19 ?a20 ?l20 ?c20 ?k20 ?a21 ?l21 ?c21 ?k21 ?a22 ?l22 ?c22 ?k22 ?a23 ?l23 ?c23 ?k23 ?a24 ?l24 ?c24 ?k24 ?a25 ?l25 ?c25 ?k25 ?a26 ?l26 ?c26 ?k26 ?a27 ?l27 ?c27 ?k27 ?a28 ?l28 ?c28 ?k28 ?a29 ?l29 ?c29 ?k29 ?a30 ?l30 ?c30 ?k30 ?a31 ?l31 ?c31 ?k31 ?a32 ?l32 ?c32 ?k32 ?a33 ?l33 ?c33 ?k33 ?a34 ?l34 ?c34 ?k34 ?a35 ?l35 ?c35 ?k35 ?a36 ?l36 ?c36 ?k36 ?a37 ?l37 ?c37 ?k37 ?a38 ?l38 ?c38 ?k38 ?a39 ?l39 ?c39 ?k39 ?a40 ?l40 ?c40 ?k40 ?a41 ?l41 ?c41 ?k41 ?a42 ?l42 ?c42 ?k42 ?a43 ?l43 ?c43 ?k43 ?a44 ?l44 ?c44 ?k44 ?a45 ?l45 ?c45 ?k45 ?a46 ?l46 ?c46 ?k46 ?a47 ?l47 ?c47 ?k47 ?a48 ?l48 ?c48 ?k48 ?a49 ?l49 ?c49 ?k49 ?a50 ?l50 ?c50 ?k50 ?a51 ?l51 ?c51 ?k51 ?a52 ?l52 ?c52 ?k52 ?y0 ?y1 ?y2 ?aD0 ?lD0 ?kD0_0 ?kD0_1 ?kD0_2 ?kD0_3 ?kD0_4 ?kD0_5 ?fD0 ?oD0 ?z0 ?z1 ?z2 ?z3 ?z4 ?z5 ?z6 ?z7 ?z8 ?z9 ?z10 ?z11 ?z12 ?z13 ?z14 ?zc ?aT ?iT ?tT ?eT ?hT ?sT ?sg ?tkk ?xA0 ?xL0 ?xsa0 ?xga0 ?xgg0 ?xnb0 ?xi0 ?xt0 ?xl0 ?xcd0 ?xk0 ?iX0 ?tX0 ?eX0 ?hX0 ?sX0 ?xkc0 ?xmo0 ?xu0T
    (case a0 => first | k_is | rfl)
    (case l0 => first | k_is | rfl)
    (case c0 => first | k_is | rfl)
    (case k0 => first | k_is | rfl)
    (case a1 => first | k_is | rfl)
    (case l1 => first | k_is | rfl)
    (case c1 => first | k_is | rfl)
    (case k1 => first | k_is | rfl)
    (case a2 => first | k_is | rfl)
    (case l2 => first | k_is | rfl)
    (case c2 => first | k_is | rfl)
    (case k2 => first | k_is | rfl)
    (case a3 => first | k_is | rfl)
    (case l3 => first | k_is | rfl)
    (case c3 => first | k_is | rfl)
    (case k3 => first | k_is | rfl)
    (case a4 => first | k_is | rfl)
    (case l4 => first | k_is | rfl)
    (case c4 => first | k_is | rfl)
    (case k4 => first | k_is | rfl)
    (case a5 => first | k_is | rfl)
    (case l5 => first | k_is | rfl)
    (case c5 => first | k_is | rfl)
    (case k5 => first | k_is | rfl)
    (case a6 => first | k_is | rfl)
    (case l6 => first | k_is | rfl)
    (case c6 => first | k_is | rfl)
    (case k6 => first | k_is | rfl)
    (case a7 => first | k_is | rfl)
    (case l7 => first | k_is | rfl)
    (case c7 => first | k_is | rfl)
    (case k7 => first | k_is | rfl)
    (case a8 => first | k_is | rfl)
    (case l8 => first | k_is | rfl)
    (case c8 => first | k_is | rfl)
    (case k8 => first | k_is | rfl)
    (case a9 => first | k_is | rfl)
    (case l9 => first | k_is | rfl)
    (case c9 => first | k_is | rfl)
    (case k9 => first | k_is | rfl)
    (case a10 => first | k_is | rfl)
    (case l10 => first | k_is | rfl)
    (case c10 => first | k_is | rfl)
    (case k10 => first | k_is | rfl)
    (case a11 => first | k_is | rfl)
    (case l11 => first | k_is | rfl)
    (case c11 => first | k_is | rfl)
    (case k11 => first | k_is | rfl)
    (case lk0 => first | k_is | rfl)
    (case hv0 => first | rfl | kernel_rfl | decide +kernel)
    (case np0 => first | kernel_rfl | rfl | decide +kernel)
    (case ch0 => first | kernel_rfl | rfl | decide +kernel)
    (case ht0 => first | exact PySem.W.km_tabs_of Y _ (.head _) | exact PySem.W.km_tabs_of Y _ (.tail _ (.head _)) | exact PySem.W.km_tabs_of Y _ (.tail _ (.tail _ (.head _))))
    (case a12 => first | k_is | rfl)
    (case l12 => first | k_is | rfl)
    (case c12 => first | k_is | rfl)
    (case k12 => first | k_is | rfl)
    (case a13 => first | k_is | rfl)
    (case l13 => first | k_is | rfl)
    (case c13 => first | k_is | rfl)
    (case k13 => first | k_is | rfl)
    (case a14 => first | k_is | rfl)
    (case l14 => first | k_is | rfl)
    (case c14 => first | k_is | rfl)
    (case k14 => first | k_is | rfl)
    (case a15 => first | k_is | rfl)
    (case l15 => first | k_is | rfl)
    (case c15 => first | k_is | rfl)
    (case k15 => first | k_is | rfl)
    (case a16 => first | k_is | rfl)
    (case l16 => first | k_is | rfl)
    (case c16 => first | k_is | rfl)
    (case k16 => first | k_is | rfl)
    (case a17 => first | k_is | rfl)
    (case l17 => first | k_is | rfl)
    (case c17 => first | k_is | rfl)
    (case k17 => first | k_is | rfl)
    (case a18 => first | k_is | rfl)
    (case l18 => first | k_is | rfl)
    (case c18 => first | k_is | rfl)
    (case k18 => first | k_is | rfl)
    (case a19 => first | k_is | rfl)
    (case l19 => first | k_is | rfl)
    (case c19 => first | k_is | rfl)
    (case k19 => first | k_is | rfl)
    (case a20 => first | k_is | rfl)
    (case l20 => first | k_is | rfl)
    (case c20 => first | k_is | rfl)
    (case k20 => first | k_is | rfl)
    (case a21 => first | k_is | rfl)
    (case l21 => first | k_is | rfl)
    (case c21 => first | k_is | rfl)
    (case k21 => first | k_is | rfl)
    (case a22 => first | k_is | rfl)
    (case l22 => first | k_is | rfl)
    (case c22 => first | k_is | rfl)
    (case k22 => first | k_is | rfl)
    (case a23 => first | k_is | rfl)
    (case l23 => first | k_is | rfl)
    (case c23 => first | k_is | rfl)
    (case k23 => first | k_is | rfl)
    (case a24 => first | k_is | rfl)
    (case l24 => first | k_is | rfl)
    (case c24 => first | k_is | rfl)
    (case k24 => first | k_is | rfl)
    (case a25 => first | k_is | rfl)
    (case l25 => first | k_is | rfl)
    (case c25 => first | k_is | rfl)
    (case k25 => first | k_is | rfl)
    (case a26 => first | k_is | rfl)
    (case l26 => first | k_is | rfl)
    (case c26 => first | k_is | rfl)
    (case k26 => first | k_is | rfl)
    (case a27 => first | k_is | rfl)
    (case l27 => first | k_is | rfl)
    (case c27 => first | k_is | rfl)
    (case k27 => first | k_is | rfl)
    (case a28 => first | k_is | rfl)
    (case l28 => first | k_is | rfl)
    (case c28 => first | k_is | rfl)
    (case k28 => first | k_is | rfl)
    (case a29 => first | k_is | rfl)
    (case l29 => first | k_is | rfl)
    (case c29 => first | k_is | rfl)
    (case k29 => first | k_is | rfl)
    (case a30 => first | k_is | rfl)
    (case l30 => first | k_is | rfl)
    (case c30 => first | k_is | rfl)
    (case k30 => first | k_is | rfl)
    (case a31 => first | k_is | rfl)
    (case l31 => first | k_is | rfl)
    (case c31 => first | k_is | rfl)
    (case k31 => first | k_is | rfl)
    (case a32 => first | k_is | rfl)
    (case l32 => first | k_is | rfl)
    (case c32 => first | k_is | rfl)
    (case k32 => first | k_is | rfl)
    (case a33 => first | k_is | rfl)
    (case l33 => first | k_is | rfl)
    (case c33 => first | k_is | rfl)
    (case k33 => first | k_is | rfl)
    (case a34 => first | k_is | rfl)
    (case l34 => first | k_is | rfl)
    (case c34 => first | k_is | rfl)
    (case k34 => first | k_is | rfl)
    (case a35 => first | k_is | rfl)
    (case l35 => first | k_is | rfl)
    (case c35 => first | k_is | rfl)
    (case k35 => first | k_is | rfl)
    (case a36 => first | k_is | rfl)
    (case l36 => first | k_is | rfl)
    (case c36 => first | k_is | rfl)
    (case k36 => first | k_is | rfl)
    (case a37 => first | k_is | rfl)
    (case l37 => first | k_is | rfl)
    (case c37 => first | k_is | rfl)
    (case k37 => first | k_is | rfl)
    (case a38 => first | k_is | rfl)
    (case l38 => first | k_is | rfl)
    (case c38 => first | k_is | rfl)
    (case k38 => first | k_is | rfl)
    (case a39 => first | k_is | rfl)
    (case l39 => first | k_is | rfl)
    (case c39 => first | k_is | rfl)
    (case k39 => first | k_is | rfl)
    (case a40 => first | k_is | rfl)
    (case l40 => first | k_is | rfl)
    (case c40 => first | k_is | rfl)
    (case k40 => first | k_is | rfl)
    (case a41 => first | k_is | rfl)
    (case l41 => first | k_is | rfl)
    (case c41 => first | k_is | rfl)
    (case k41 => first | k_is | rfl)
    (case a42 => first | k_is | rfl)
    (case l42 => first | k_is | rfl)
    (case c42 => first | k_is | rfl)
    (case k42 => first | k_is | rfl)
    (case a43 => first | k_is | rfl)
    (case l43 => first | k_is | rfl)
    (case c43 => first | k_is | rfl)
    (case k43 => first | k_is | rfl)
    (case a44 => first | k_is | rfl)
    (case l44 => first | k_is | rfl)
    (case c44 => first | k_is | rfl)
    (case k44 => first | k_is | rfl)
    (case a45 => first | k_is | rfl)
    (case l45 => first | k_is | rfl)
    (case c45 => first | k_is | rfl)
    (case k45 => first | k_is | rfl)
    (case a46 => first | k_is | rfl)
    (case l46 => first | k_is | rfl)
    (case c46 => first | k_is | rfl)
    (case k46 => first | k_is | rfl)
    (case a47 => first | k_is | rfl)
    (case l47 => first | k_is | rfl)
    (case c47 => first | k_is | rfl)
    (case k47 => first | k_is | rfl)
    (case a48 => first | k_is | rfl)
    (case l48 => first | k_is | rfl)
    (case c48 => first | k_is | rfl)
    (case k48 => first | k_is | rfl)
    (case a49 => first | k_is | rfl)
    (case l49 => first | k_is | rfl)
    (case c49 => first | k_is | rfl)
    (case k49 => first | k_is | rfl)
    (case a50 => first | k_is | rfl)
    (case l50 => first | k_is | rfl)
    (case c50 => first | k_is | rfl)
    (case k50 => first | k_is | rfl)
    (case a51 => first | k_is | rfl)
    (case l51 => first | k_is | rfl)
    (case c51 => first | k_is | rfl)
    (case k51 => first | k_is | rfl)
    (case a52 => first | k_is | rfl)
    (case l52 => first | k_is | rfl)
    (case c52 => first | k_is | rfl)
    (case k52 => first | k_is | rfl)
    (case y0 => first | k_is | rfl)
    (case y1 => first | k_is | rfl)
    (case y2 => first | k_is | rfl)
    (case aD0 => first | k_is | rfl)
    (case lD0 => first | k_is | rfl | kernel_rfl)
    (case kD0_0 => first | k_is | rfl | kernel_rfl)
    (case kD0_1 => first | k_is | rfl | kernel_rfl)
    (case kD0_2 => first | k_is | rfl | kernel_rfl)
    (case kD0_3 => first | k_is | rfl | kernel_rfl)
    (case kD0_4 => first | k_is | rfl | kernel_rfl)
    (case kD0_5 => first | k_is | rfl | kernel_rfl)
    (case fD0 => repeat' (first | exact trivial | refine ⟨⟨_, _, rfl, rfl⟩, ?_⟩))
    (case oD0 => first | rfl | decide +kernel)
    (case z0 => first | k_is | rfl)
    (case z1 => first | k_is | rfl)
    (case z2 => first | k_is | rfl)
    (case z3 => first | k_is | rfl)
    (case z4 => first | k_is | rfl)
    (case z5 => first | k_is | rfl)
    (case z6 => first | k_is | rfl)
    (case z7 => first | k_is | rfl)
    (case z8 => first | k_is | rfl)
    (case z9 => first | k_is | rfl)
    (case z10 => first | k_is | rfl)
    (case z11 => first | k_is | rfl)
    (case z12 => first | k_is | rfl)
    (case z13 => first | k_is | rfl)
    (case z14 => first | k_is | rfl)
    (case zc => first | k_is | rfl)
    (case aT => first | k_is | rfl)
    (case iT => first | k_is | rfl)
    (case tT => first | k_is | rfl)
    (case eT => first | k_is | rfl)
    (case hT => first | k_is | rfl)
    (case sT => first | k_is | rfl)
    (case sg => first | k_is | rfl)
    (case tkk => first | k_is | rfl)
    (case xA0 => first | k_is | rfl)
    (case xL0 => first | k_is | rfl)
    (case xsa0 => first | k_is | rfl)
    (case xga0 => first | k_is | rfl)
    (case xgg0 => first | k_is | rfl)
    (case xnb0 => first | k_is | rfl)
    (case xi0 => first | k_is | rfl)
    (case xt0 => first | k_is | rfl)
    (case xl0 => first | k_is | rfl)
    (case xcd0 => first | k_is | rfl)
    (case xk0 => first | k_is | rfl)
    (case iX0 => first | k_is | rfl)
    (case tX0 => first | k_is | rfl)
    (case eX0 => first | k_is | rfl)
    (case hX0 => first | k_is | rfl)
    (case sX0 => first | k_is | rfl)
    (case xkc0 => first | k_is | rfl)
    (case xmo0 => first | k_is | rfl)
    (case xu0T => first | k_is | rfl)
