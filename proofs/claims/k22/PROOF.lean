import PyProof.Rows.All
import Wide.All
import OpenK.AllK
import Wide.FinOn
import HandS.ForMost
import HandS.IsInst
import PyProof.ReprRoads
import HandS.Walk
import HandS.Text
import PyProof.StrOps2
import PyProof.ReprText
import KE.GoesMore
import HandS.Iter
import HandS.DictComp
import HandS.More
import HandS.Property
import HandS.TupMul
import HandS.ExcInit
import HandS.ExcField
import HandS.WordsExc
import HandS.ExcOwn
import HandS.TryOnly
import HandS.Zip
import HandS.Deep
import HandS.ExcIs
import KE.KExcIs
import KE.DataMinMax
import KE.LtData
import PyProof.Rows.StrMeet
import HandS.Comp
import HandS.HotCalls
import HandS.ExcCtx
import HandS.Strs
import HandS.TupAny
import HandS.Style
import KE.KRevSl
import PyProof.NeData
import HandS.WordsDict
import HandS.CallLocal
import PySem.Challenge.RW_openlanes_k22_programs_refused
set_option Elab.async false
set_option linter.all false
set_option maxRecDepth 100000
set_option maxHeartbeats 4000000
/-! Own rules: defs that may show data (no display is under way), and the law's end for them. -/
namespace Ol
open PySem PySem.Spec PyProof.Rows L2

/-- a def's promise where no display is under way -/
structure FnG (P : Program) (w : World) (K : PySem.W.Frag)
    (mg : Str → Option Value) (base : Heap) (k : Nat)
    (f : Addr) (fd : FuncData) (ps : List Str) (sp : Sp) : Prop where
  len : ∀ vs H Q E, sp vs H Q E → vs.length = ps.length
  go : ∀ (A : Around) (outer : List Env) (s : Shared) (H : Hp)
    (args : Args) (us : List Value) (vs : List V) (Q : VK) (E : XK),
    A.guards = some [] → Room k A → Env0 P w K mg base A outer s H →
    BindsTo s fd args (ps.zip us) → Vals vs us → sp vs H Q E →
    codeAny (model P w) A (.call (.ref f) args)
      (CR CX0 outer P w H s Q E) s

section
variable {P : Program} {w : World} {K : PySem.W.Frag}
  {mg : Str → Option Value} {base : Heap} {k : Nat}

theorem FnG.of {f : Addr} {fd : FuncData} {ps : List Str} {sp : Sp}
    (F : FnOk P w K mg base CX0 k f fd ps sp) : FnG P w K mg base k f fd ps sp :=
  ⟨F.len, fun A o s H as us vs Q E _ r => F.run A o s H as us vs Q E r⟩

/-- the rule for a def, its body's context has no display under way -/
theorem okG {x qual : Str} {st : Stmt} {f : Addr} {fd : FuncData}
    {N ps : List Str} {sp : Sp} (F : Fun K x qual st f fd)
    (S : FnScope N ps (defScope st))
    (len : ∀ vs H Q E, sp vs H Q E → vs.length = ps.length)
    (body : ∀ (cdv : Value) (A : Around) (outer : List Env) (s : Shared)
      (H : Hp) (vs : List V) (Q : VK) (E : XK),
      (A.deeper (envOfC qual (defScope st) s.heap.objs.size f cdv)).guards = some [] →
      Room k (A.deeper (envOfC qual (defScope st) s.heap.objs.size f cdv)) →
      sp vs H Q E → ∃ t,
        PSs (cxOf CX0 P w K mg base N qual (defScope st) f cdv A outer s H E).nox
          (defBody st) t ∧
        t { nx := fun _ H' => Q .non H', rt := Q } (start N vs) H) :
    FnG P w K mg base (k + 1) f fd ps sp := by
  obtain ⟨oc, od, kV, doc, pm, an, cdv, ct, osl, rfl, lk, hcd⟩ := F.ex
  refine ⟨len, ?_⟩
  intro A outer s H args us vs Q E hG room e0 hb rv hsp
  have hlen := len _ _ _ _ hsp
  have kin : K.In s.heap :=
    e0.mod.kin.keeps (fun b o e => (e0.bs b o e).1)
  have nol : s.heap.NoLimit :=
    e0.mod.nolimit.keeps (fun b o e => (e0.bs b o e).1)
  have kinds : ∀ y ∈ ps.zip us,
      (defScope st).names.lookup y.1 = some .local ∨
      ((defScope st).names.lookup y.1 = some .cell ∧
        ((cellsFrom (s.heap.objs.size + 1) (defScope st).names []).lookup y.1).isSome = true) := by
    rintro ⟨n, v⟩ hy
    cases S.par n (List.of_mem_zip hy).1 with
    | inl q => exact Or.inl q
    | inr q => exact Or.inr ⟨q, PySem.W.cellsFrom_some _ _ _ (Or.inl q)⟩
  refine codeAny_call_function room.depth (kin _ _ lk) rfl S.co S.gen rfl
    (PySem.W.codeRec_of kin hcd) (hb _ _ _ _ ?_)
  refine wpAny_newFunctionEnv_cells S.kind kinds ?_
  intro env he s1 x
  subst he
  refine ⟨nol.keeps x.toInCall.keep, codeAny_func ?_⟩
  have hG' : (A.deeper (envOfC qual (defScope st) s.heap.objs.size f cdv)).guards = some [] := by
    exact hG
  obtain ⟨t, ht0, hq⟩ := body cdv A outer s H vs Q E hG' (room.deeper _) hsp
  have ht := ht0.nox
  have I := inv_start (CX := CX0) (E := E) S room.hd e0 hlen rv x
  have out : ∀ {σ' : L2.St} {H' : Hp} {v : V} {u : Value} {s' : Shared},
      Inv (cxOf CX0 P w K mg base N qual (defScope st) f cdv A outer s H E) [] σ' H' s' →
      RelV v u → Q v H' → CE outer P w H s Q u s' :=
    fun J r q => ⟨_, _, J.os, J.bare, J.base, J.hok, r, q⟩
  refine wpAny_mono (ht.run [] s1 (start N vs) H _ I hq) ?_ (fun _ _ z => z)
  intro fl s' hs
  cases fl with
  | next =>
    obtain ⟨_, _, J, q⟩ := hs
    exact out (v := V.non) (u := Value.none) J rfl q
  | ret u =>
    obtain ⟨_, _, _, J, r, q⟩ := hs
    exact out J r q
  | brk => exact hs.choose_spec.choose_spec.2.elim
  | cont => exact hs.choose_spec.choose_spec.2.elim
end

section
variable {X : Cx} {k : Nat} {f : Addr} {fd : FuncData} {ps : List Str}
  {sp : Sp} {E : XK} {x : Str} {e : Expr} {es : List Expr} {t : TA}
  {p pos : Pos} {ds : List Value} {dvs : List V}
/-- f(..) of such a def -/
theorem pe_callG (F : FnG X.prog X.w X.K X.mg X.base k f fd ps sp)
    (hG : X.A.guards = some []) (hr : Room k X.A) (hg : Gl X x)
    (hm : X.mg x = some (.ref f)) (hk : PySem.W.keepIn X.K (.ref f) = true)
    (hb : Binds X.K fd ps []) (ha : PA X (e :: es) t)
    (hdb : (x == ("__debug__" : Str)) = false := by decide)
    (he : starEach (e :: es) X.env = (false, eval e X.env) :: starEach es X.env := by rfl)
    (hpl : (backTo pos (starEach es X.env)).any (·.1) = false := by rfl) :
    PE X (.Call (.Name x p) (e :: es) [] pos) (tCall sp [] E0 t) := by
  constructor
  intro pins s σ H Q I h
  apply wpAny_Call_Name_kw
  apply ld_glob I hg hm (hd := hdb)
  refine PySem.W.callWith_K (h₀ := X.base) I.ok.mod.kin hk ?_ he hpl
  refine thn (ha.run pos pins s σ H _ I h) ?_
  rintro us s1 ⟨vs, H1, I1, r, q⟩
  refine ⟨I1.kIn, ?_⟩
  have q' : sp vs H1 Q E0 := by
    have z : sp (vs ++ []) H1 Q E0 := q
    rwa [List.append_nil] at z
  have hl : us.length = ps.length := by
    rw [← r.length]
    exact F.len _ _ _ _ q'
  have hbs := hb s1 us I1.kIn (by simpa using hl)
  rw [List.append_nil] at hbs
  refine wpAny_call (codeAny_mono (F.go X.A X.stack s1 H1 ⟨us, []⟩ us vs Q E0 hG hr I1.env0 hbs r q') ?_)
  intro res s2 hres
  cases res with
  | error z => exact False.elim hres
  | ok fl =>
    cases fl with
    | ret u => exact I1.after hres
    | next => exact False.elim hres
    | brk => exact False.elim hres
    | cont => exact False.elim hres
end
end Ol

set_option Elab.async false
set_option linter.all false
set_option maxRecDepth 100000
set_option maxHeartbeats 4000000
namespace Ol
open PySem PySem.Spec PyProof.Rows L2

/-- the table of modules is set aside: no list stands there -/
def Sys (H : Hp) : Prop := ∃ o u, H sysModules = some (.frz o u)

/-- every tracked object is locked -/
def Lockd (H : Hp) : Prop := ∀ b u, H b = some u → ∃ o v, u = .frz o v

section
variable {P : Program} {w : World} {K : PySem.W.Frag} {mg mb : Str → Option Value}
  {k : Nat} {fa a : Addr} {fd : FuncData} {x : Str} {sp : Sp} {s1 : Shared}

/-- the call of the law from a heap in which some objects are locked -/
theorem enterG (H : Hp) (hL : Lockd H) (ok : HOk P w H s1.heap)
    (hK : ∀ b, H b ≠ none → K.lookup b = none)
    (hN : ∀ b m, s1.heap.Ns b m → (b = 0 ∨ b = 3 ∨ b = cStatics) → H b = none)
    (kin : K.In s1.heap) (hns : s1.heap.Ns mainGlobals mg) (hb : s1.heap.Ns builtinsNs mb)
    (hbb : ∀ y : Str, y ≠ "__name__" → mb y = bootBuiltins y)
    (hlim : s1.heap.NoLimit) (hg : s1.gens = #[]) (hr : Room k callerA)
    (F : ∀ base : Heap, K.In base → base.Ns mainGlobals mg → FnG P w K mg base k fa fd [x] sp)
    (bind : ∀ (s : Shared) (u : Value), BindsTo s fd ⟨[u], []⟩ [(x, u)])
    (hsp : sp [.ref a] H (fun v _ => v = .bl true) E0) :
    codeAny (model P w) callerA (.call (.ref fa) ⟨[.ref a], []⟩)
      (fun r s' => r = .ok (.ret (.bool true)) ∧ OldK s1.heap s'.heap ∧
        s'.os = s1.os ∧ AllBare s'.gens) s1 := by
  have ns : ∀ {b : Addr} {m : Str → Option Value}, s1.heap.Ns b m →
      (b = 0 ∨ b = 3 ∨ b = cStatics) → (hidT s1.heap H).Ns b m := by
    intro b m h c
    have n := hN b m h c
    obtain ⟨o, es, ep, e, r⟩ := h
    exact ⟨o, es, ep, hidT_get e n, r⟩
  have kb : K.In (hidT s1.heap H) := by
    intro b o e
    refine hidT_get (kin b o e) ?_
    cases q : H b with
    | none => rfl
    | some u =>
      have z := hK b (by rw [q]; exact fun t => nomatch t)
      rw [z] at e
      cases e
  have gl : (hidT s1.heap H).Ns mainGlobals mg := ns hns (Or.inr (Or.inl rfl))
  have md : Mod K mg (hidT s1.heap H) := by
    refine ⟨kb, gl, ⟨mb, ns hb (Or.inl rfl), hbb⟩, ?_⟩
    obtain ⟨mc, h1, h2⟩ := hlim
    exact ⟨mc, ns h1 (Or.inr (Or.inr rfl)), h2⟩
  have e0 : Env0 P w K mg (hidT s1.heap H) callerA [] s1 H := by
    refine ⟨rfl, md, fun b o e => of_hidT e, Nat.le_of_eq (hidT_size _ _), trivial, ?_, ok, .of_eq hg⟩
    intro b hb
    cases hb
  have run := (F _ kb gl).go callerA [] s1 H ⟨[.ref a], []⟩ [.ref a] [.ref a]
    (fun v _ => v = .bl true) E0 rfl hr e0 (bind s1 (.ref a)) (.cons rfl .nil) hsp
  refine codeAny_mono run ?_
  intro r s' h
  match r, h with
  | .error e, h => exact h.elim
  | .ok .next, h => exact h.elim
  | .ok .brk, h => exact h.elim
  | .ok .cont, h => exact h.elim
  | .ok (.ret u), h =>
    obtain ⟨v, H', os, bare, un, ok', rv, q⟩ := h
    have q' : v = .bl true := q
    subst q'
    have eu : u = Value.bool true := rv
    subst eu
    refine ⟨rfl, OldK.of_keep ?_, os, bare⟩
    intro b o e
    cases q : H b with
    | none => exact un.keep b o e q (fun z => nomatch z) (fun z => nomatch z)
    | some u =>
      obtain ⟨ob, v, rfl⟩ := hL b u q
      have q2 := un.frzs b ob v q
      have e1 : s1.heap.get? b = some ob := (ok b _ q).1
      have e2 : s'.heap.get? b = some ob := (ok' b _ q2).1
      rw [e] at e1
      cases e1
      exact e2

/-- the law's heap at its entry: the script locked (or of the module), the table of modules locked -/
theorem law_callG {vs : List Value} {ns : List Int}
    (kin : K.In s1.heap) (kS : K.lookup sysModules = none)
    (hS : ∃ o, s1.heap.get? sysModules = some o)
    (hns : s1.heap.Ns mainGlobals mg) (hb : s1.heap.Ns builtinsNs mb)
    (hbb : ∀ y : Str, y ≠ "__name__" → mb y = bootBuiltins y)
    (hlim : s1.heap.NoLimit) (hg : s1.gens = #[])
    (ha : s1.heap.get? a = some { cls := .type "list", data := .seq vs.toArray })
    (hi : IntsAre vs ns) (hl : ns.length ≤ sizeLine) (hr : Room k callerA)
    (F : ∀ base : Heap, K.In base → base.Ns mainGlobals mg → FnG P w K mg base k fa fd [x] sp)
    (bind : ∀ (s : Shared) (u : Value), BindsTo s fd ⟨[u], []⟩ [(x, u)])
    (hsp : ∀ H : Hp, Sys H → SqL K H a (ns.map V.int) → sp [.ref a] H (fun v _ => v = .bl true) E0) :
    codeAny (model P w) callerA (.call (.ref fa) ⟨[.ref a], []⟩)
      (fun r s' => r = .ok (.ret (.bool true)) ∧ OldK s1.heap s'.heap ∧
        s'.os = s1.os ∧ AllBare s'.gens) s1 := by
  have rv := vals_ints hi
  obtain ⟨o1, ho1⟩ := hS
  -- no namespace is locked
  have dat : ∀ b m, s1.heap.Ns b m → b ≠ a := by
    rintro b m ⟨o, es, ep, e, d, _⟩ rfl
    rw [ha] at e
    cases e
    have d' : Data.seq vs.toArray _ = Data.dict es ep := d
    cases d'
  have nsys : ∀ b : Addr, (b = 0 ∨ b = 3 ∨ b = cStatics) → b ≠ sysModules := by
    rintro b (rfl | rfl | rfl) <;> decide
  have okS : ∀ H : Hp, ObjOk P w H s1.heap sysModules (.frz o1 (.ext fun _ => True)) :=
    fun H => ⟨ho1, trivial, ⟨o1, ho1⟩, fun _ _ _ _ => trivial⟩
  cases hk : K.lookup a with
  | some o =>
    have e := kin a o hk
    rw [ha] at e
    cases e
    have hL : SqL K (fun b => if b = sysModules then some (.frz o1 (.ext fun _ => True)) else none) a (ns.map V.int) := by
      refine Or.inr ⟨_, vs.toArray, _, hk, rfl, rfl, rfl, ?_, by simpa using rv⟩
      rw [List.size_toArray, hi.length]
      exact hl
    refine enterG (fun b => if b = sysModules then some (.frz o1 (.ext fun _ => True)) else none)
      ?_ ?_ ?_ ?_ kin hns hb hbb hlim hg hr F bind (hsp _ ⟨o1, _, if_pos rfl⟩ hL)
    · intro b u q
      by_cases c : b = sysModules
      · have q' := (if_pos c).symm.trans q
        cases q'
        exact ⟨_, _, rfl⟩
      · have q' := (if_neg c).symm.trans q
        cases q'
    · intro b u q
      by_cases c : b = sysModules
      · have q' := (if_pos c).symm.trans q
        cases q'
        subst c
        exact okS _
      · have q' := (if_neg c).symm.trans q
        cases q'
    · intro b q
      by_cases c : b = sysModules
      · subst c
        exact kS
      · exact absurd (if_neg c) q
    · intro b m _ c
      exact if_neg (nsys b c)
  | none =>
    let H0 : Hp := fun b => if b = a then some (.frz { cls := .type "list", data := .seq vs.toArray } (.lst (ns.map V.int)))
      else if b = sysModules then some (.frz o1 (.ext fun _ => True)) else none
    have at_a : H0 a = some (.frz { cls := .type "list", data := .seq vs.toArray } (.lst (ns.map V.int))) := if_pos rfl
    have sysH : Sys H0 := by
      by_cases c : sysModules = a
      · exact ⟨_, _, if_pos c⟩
      · exact ⟨o1, _, (if_neg c).trans (if_pos rfl)⟩
    refine enterG H0 ?_ ?_ ?_ ?_ kin hns hb hbb hlim hg hr F bind (hsp _ sysH (Or.inl (Or.inr ⟨_, at_a⟩)))
    · intro b u q
      by_cases c : b = a
      · have q' := (if_pos c).symm.trans q
        cases q'
        exact ⟨_, _, rfl⟩
      · by_cases c2 : b = sysModules
        · have q' := ((if_neg c).trans (if_pos c2)).symm.trans q
          cases q'
          exact ⟨_, _, rfl⟩
        · have q' := ((if_neg c).trans (if_neg c2)).symm.trans q
          cases q'
    · intro b u q
      by_cases c : b = a
      · have q' := (if_pos c).symm.trans q
        cases q'
        subst c
        exact ⟨ha, by rw [List.length_map]; exact hl, vs, _, rv, ha⟩
      · by_cases c2 : b = sysModules
        · have q' := ((if_neg c).trans (if_pos c2)).symm.trans q
          cases q'
          subst c2
          exact okS _
        · have q' := ((if_neg c).trans (if_neg c2)).symm.trans q
          cases q'
    · intro b q
      by_cases c : b = a
      · rw [c]
        exact hk
      · by_cases c2 : b = sysModules
        · rw [c2]
          exact kS
        · exact absurd ((if_neg c).trans (if_neg c2)) q
    · intro b m h c
      exact (if_neg (dat b m h)).trans (if_neg (nsys b c))
end

/-- the end of a law's row, by a promise of FnG -/
theorem walkG {l : PySem.W.OpenLaw} {n k : Nat} {q : Program} {loose : List Str}
    {XP : (Str → Option Value) → Heap → Prop} {YP : World → Heap → Prop} {d : DefRec}
    {K : Params → PySem.W.Frag} {sp : World → Sp} {x : Str}
    (hn : l.most = some n) (him : importsNone q = true) (hn2 : n ≤ sizeLine) (hdf : d.params.defaults = []) (hr : Room k callerA)
    (hY : ∀ (w : World) (h : Heap), YP w h → (K w.params).In h)
    (kS : ∀ w : World, (K w.params).lookup sysModules = none)
    (F : ∀ (w : World) (mg : Str → Option Value) (fa : Addr) (h : Heap),
      (K w.params).In h → h.Ns mainGlobals mg → mg d.name = some (.ref fa) →
      ∃ fd : FuncData, (∀ (s : Shared) (u : Value), BindsTo s fd ⟨[u], []⟩ [(x, u)]) ∧
        ∀ base : Heap, (K w.params).In base → base.Ns mainGlobals mg →
          FnG l.prog w (K w.params) mg base k fa fd [x] (sp w))
    (hsp : ∀ (w : World) (H : Hp) (a : Addr) (ns : List Int), ns.length ≤ n → Sys H →
      SqL (K w.params) H a (ns.map V.int) → sp w [.ref a] H (fun v _ => v = .bl true) E0) :
    PySem.W.WalkO q loose XP YP l.row.toRowW d [] (fun f vs => PySem.call f vs) := by
  refine Att.attach_call hn hdf ?_
  intro w s0 s1 mg mb fa o pm cd doc a vs ns G Y ho hd hcd hmg hobj hints hlen hg
  have kin := hY w _ Y
  obtain ⟨fd, hb, hF⟩ := F w mg fa _ kin G.T.g hmg
  have hS : ∃ o, s1.heap.get? sysModules = some o := by
    obtain ⟨mm, ⟨o, es, ep, e, _⟩, _⟩ := (G.T.seer him).mods
    exact ⟨o, e⟩
  exact law_callG kin (kS w) hS G.T.g G.T.b G.T.builtins G.T.nolimit hg hobj hints
    (Nat.le_trans hlen hn2) hr hF hb (fun H h1 h2 => hsp w H a ns hlen h1 h2)
end Ol

set_option Elab.async false
set_option linter.all false
set_option maxRecDepth 100000
set_option maxHeartbeats 4000000
namespace Ol
open PySem PySem.Spec PyProof.Rows L2

/-- a key of a dict as data -/
def keyD : Key → PyData
  | .inl i => .int i
  | .inr x => .str x

/-! ### data of any depth, dicts with ints and texts as keys too -/
mutual
inductive Dq (H : Hp) : V → PyData → Prop
  | non : Dq H .non .none
  | bl (b : Bool) : Dq H (.bl b) (.bool b)
  | int (i : Int) : Dq H (.int i) (.int i)
  | str (x : Str) : Dq H (.str x) (.str x)
  | lst {a : Addr} {xs : List V} {ds : List PyData} :
      H a = some (.lst xs) → DqAll H xs ds → Dq H (.ref a) (.list ds)
  | tup {a : Addr} {xs : List V} {ds : List PyData} :
      H a = some (.tup xs) → DqAll H xs ds → Dq H (.ref a) (.tuple ds)
  | dct {a : Addr} {kvs : List (Key × V)} {ds : List PyData} :
      H a = some (.dK kvs) → DqAll H (kvs.map (·.2)) ds →
      Dq H (.ref a) (.dict ((kvs.map fun kv => keyD kv.1).zip ds))
inductive DqAll (H : Hp) : List V → List PyData → Prop
  | nil : DqAll H [] []
  | cons {v : V} {vs : List V} {d : PyData} {ds : List PyData} :
      Dq H v d → DqAll H vs ds → DqAll H (v :: vs) (d :: ds)
end

theorem DqAll.len {H : Hp} : ∀ {vs : List V} {ds : List PyData}, DqAll H vs ds → vs.length = ds.length
  | [], _, h => by cases h; rfl
  | v :: vs, _, h => by
    cases h with
    | cons _ t => rw [List.length_cons, List.length_cons, t.len]

/-- what is tracked in H stands in H' as well -/
def Ext (H H' : Hp) : Prop := ∀ b o, H b = some o → H' b = some o

mutual
theorem Dq.up {H H' : Hp} (e : Ext H H') : ∀ {v : V} {d : PyData}, Dq H v d → Dq H' v d
  | _, _, .non => .non
  | _, _, .bl b => .bl b
  | _, _, .int i => .int i
  | _, _, .str x => .str x
  | _, _, .lst h t => .lst (e _ _ h) (DqAll.up e t)
  | _, _, .tup h t => .tup (e _ _ h) (DqAll.up e t)
  | _, _, .dct h t => .dct (e _ _ h) (DqAll.up e t)
theorem DqAll.up {H H' : Hp} (e : Ext H H') : ∀ {vs : List V} {ds : List PyData}, DqAll H vs ds → DqAll H' vs ds
  | _, _, .nil => .nil
  | _, _, .cons h t => .cons (Dq.up e h) (DqAll.up e t)
end

section
variable {X : Cx} {pins : List (Addr × Obj)} {σ : L2.St} {H : Hp} {s : Shared}

theorem keys_reads {h : Heap} {knd : List (Key × Value)} : ∀ {kvs : List (Key × V)} {es : List DictEntry} {vs : List (Key × Value)},
    L2.KV kvs vs → Pairs (mixKind X.prog X.w) es vs →
    ReadsAll h (es.map (·.key)) (kvs.map fun kv => keyD kv.1) [] ∧ Vals (kvs.map (·.2)) (es.map (·.val))
  | [], es, _, r, p => by
    cases r
    cases p
    exact ⟨.nil, .nil⟩
  | kv :: kvs, es, _, r, p => by
    cases r with
    | cons r1 r2 =>
      cases p with
      | cons p1 p2 p3 =>
        obtain ⟨q1, q2⟩ := keys_reads (h := h) (knd := knd) r2 p3
        refine ⟨?_, .cons ?_ q2⟩
        case refine_2 =>
          have z := r1.2
          rw [← p2] at z
          exact z
        have e1 := r1.1
        rw [← e1] at p1
        rcases keyIs_shape p1 with ⟨i, t, e, e'⟩ | ⟨x, t, e, e'⟩
        · have z := ReadsAll.cons (Reads.int (h := h) i t) q1
          rw [List.map_cons, List.map_cons, e, e']
          exact z
        · have z := ReadsAll.cons (Reads.str (h := h) x t) q1
          rw [List.map_cons, List.map_cons, e, e']
          exact z

theorem zip_fst {α β : Type} : ∀ {xs : List α} {ys : List β}, xs.length = ys.length → (xs.zip ys).map (·.1) = xs
  | [], _, _ => by simp
  | x :: xs, [], h => by simp at h
  | x :: xs, y :: ys, h => by
    rw [List.zip_cons_cons, List.map_cons, zip_fst (by simpa using h)]
theorem zip_snd {α β : Type} : ∀ {xs : List α} {ys : List β}, xs.length = ys.length → (xs.zip ys).map (·.2) = ys
  | [], [], _ => by simp
  | [], y :: ys, h => by simp at h
  | x :: xs, [], h => by simp at h
  | x :: xs, y :: ys, h => by
    rw [List.zip_cons_cons, List.map_cons, zip_snd (by simpa using h)]

mutual
theorem Dq.reads (I : Inv X pins σ H s) (S : Sys H) : ∀ {v : V} {d : PyData} {u : Value}, Dq H v d → RelV v u →
    ∃ as, Reads s.heap u d as ∧ sysModules ∉ as
  | _, _, _, .non, r => by
    cases r
    exact ⟨_, Reads.none, nofun⟩
  | _, _, _, .bl b, r => by
    cases r
    exact ⟨_, Reads.bool b, nofun⟩
  | _, _, _, .int i, r => by
    obtain ⟨t, rfl⟩ := r
    exact ⟨_, Reads.int i t, nofun⟩
  | _, _, _, .str x, r => by
    obtain ⟨t, rfl⟩ := r
    exact ⟨_, Reads.str x t, nofun⟩
  | _, _, _, .lst (a := a) (xs := xs) h t, r => by
    cases r
    obtain ⟨_, its, n, rv, e⟩ := I.hok a _ h
    obtain ⟨as, q, n1⟩ := DqAll.reads I S t rv
    refine ⟨_, Reads.list e rfl rfl q, ?_⟩
    intro m
    rcases List.mem_cons.mp m with m | m
    · obtain ⟨o, u, hs⟩ := S
      rw [m, h] at hs
      cases hs
    · exact n1 m
  | _, _, _, .tup (a := a) (xs := xs) h t, r => by
    cases r
    obtain ⟨_, its, rv, o, e, c, n, d⟩ := I.hok a _ h
    obtain ⟨as, q, n1⟩ := DqAll.reads I S t rv
    exact ⟨_, Reads.tuple e c d q, n1⟩
  | _, _, _, .dct (a := a) (kvs := kvs) (ds := ds) h t, r => by
    cases r
    obtain ⟨_, na, vs, rel, o, es, ep, e, ex, hd, _, pr, _⟩ := I.hok a _ h
    obtain ⟨q1, q2⟩ := keys_reads (X := X) (h := s.heap) (knd := vs) rel pr
    obtain ⟨bs, q3, n1⟩ := DqAll.reads I S t q2
    have hl : (kvs.map fun kv => keyD kv.1).length = ds.length := by
      rw [List.length_map, ← t.len, List.length_map]
    refine ⟨_, Reads.dict (kvs := (kvs.map fun kv => keyD kv.1).zip ds) e ex.1 hd (as := []) (bs := bs) ?_ ?_, ?_⟩
    · rw [zip_fst hl]
      exact q1
    · rw [zip_snd hl]
      exact q3
    · intro m
      rcases List.mem_cons.mp m with m | m
      · rw [← m] at na
        exact absurd na (by decide)
      · exact n1 (by simpa using m)
theorem DqAll.reads (I : Inv X pins σ H s) (S : Sys H) : ∀ {vs : List V} {ds : List PyData} {us : List Value}, DqAll H vs ds → Vals vs us →
    ∃ as, ReadsAll s.heap us ds as ∧ sysModules ∉ as
  | _, _, _, .nil, r => by
    cases r
    exact ⟨_, ReadsAll.nil, nofun⟩
  | _, _, _, .cons h t, r => by
    cases r with
    | cons r1 r2 =>
      obtain ⟨as, q1, n1⟩ := Dq.reads I S h r1
      obtain ⟨bs, q2, n2⟩ := DqAll.reads I S t r2
      refine ⟨_, ReadsAll.cons q1 q2, ?_⟩
      intro m
      rcases List.mem_append.mp m with m | m
      · exact n1 m
      · exact n2 m
end
end

/-- repr(x) of data -/
def rRepr : List V → Hp → VK → Prop := fun vs H Q => ∃ v d, vs = [v] ∧ Sys H ∧ Dq H v d ∧
  d.showable = true ∧ d.depth ≤ 40 ∧ d.shown.length ≤ sizeLine ∧ Q (.str d.shown) H

theorem call_reprD {X : Cx} {k : Nat} (hG : X.A.guards = some []) (hr : Room k X.A) : CallR X (.builtin "repr") rRepr := by
  intro pins s σ H vs us Q I r h
  obtain ⟨v, d, rfl, S, hd, hs, hdp, hz, q⟩ := h
  obtain ⟨u, rfl, ru⟩ := vals1 r
  have hu := hr.units
  obtain ⟨as, rd, n1⟩ := Dq.reads I S hd ru
  have leaf : ∀ {x : Str}, x = d.shown → EP X pins σ Q (.str x s.toks) { s with toks := s.toks + 1 } := by
    rintro x rfl
    exact ⟨.str _, H, I.tok _, ⟨_, rfl⟩, q⟩
  cases hd with
  | non =>
    cases ru
    exact PySem.P.repr_of_none (leaf (by simp only [PyData.shown]))
  | bl b =>
    cases ru
    exact PySem.P.repr_of_bool (leaf (by simp only [PyData.shown]))
  | int i =>
    obtain ⟨t, rfl⟩ := ru
    exact PySem.P.repr_of_int (by simpa [PyData.showable] using hs) (leaf (by simp only [PyData.shown]))
  | str x =>
    obtain ⟨t, rfl⟩ := ru
    exact PySem.P.repr_of_str (leaf (by simp only [PyData.shown])) (by simpa only [PyData.shown] using hz)
  | lst h t =>
    cases ru
    exact repr_of_reads' rd hs (fun _ => n1) hG (by omega) (fun _ _ e => e)
      (fun h' u tk hk => ⟨.str _, H, I.kept (t' := tk) hk, ⟨u, rfl⟩, q⟩) hz
  | tup h t =>
    cases ru
    exact repr_of_reads' rd hs (fun _ => n1) hG (by omega) (fun _ _ e => e)
      (fun h' u tk hk => ⟨.str _, H, I.kept (t' := tk) hk, ⟨u, rfl⟩, q⟩) hz
  | dct h t =>
    cases ru
    exact repr_of_reads' rd hs (fun _ => n1) hG (by omega) (fun _ _ e => e)
      (fun h' u tk hk => ⟨.str _, H, I.kept (t' := tk) hk, ⟨u, rfl⟩, q⟩) hz
end Ol

set_option Elab.async false
set_option linter.all false
set_option maxRecDepth 100000
set_option maxHeartbeats 4000000
namespace Ol
open PySem PySem.Spec PyProof.Rows L2

theorem Ext.refl (H : Hp) : Ext H H := fun _ _ e => e
theorem Ext.trans {H H1 H2 : Hp} (a : Ext H H1) (b : Ext H1 H2) : Ext H H2 := fun c o e => b c o (a c o e)
theorem Ext.new {H : Hp} {p : Addr} {o : HO} (h : H p = none) : Ext H (upd H p o) := fun b u e => by
  rw [upd_ne (ne_of_none e h)]
  exact e
/-- what was not tracked at the start may change -/
theorem Ext.mut {H H' : Hp} {p : Addr} {o : HO} (e : Ext H H') (h : H p = none) : Ext H (upd H' p o) := fun b u eb => by
  rw [upd_ne (ne_of_none eb h)]
  exact e b u eb
theorem Ext.free {H H' : Hp} (e : Ext H H') {p : Addr} (h : H' p = none) : H p = none := by
  cases q : H p with
  | none => rfl
  | some o =>
    rw [e p o q] at h
    cases h

/-- xs[j] read, for xs[j] += e -/
def rGetL (K : PySem.W.Frag) : V → V → Hp → VK → Prop := fun x y H Q => ∃ (p : Addr) (xs : List V) (j : Nat) (v : V),
  x = .ref p ∧ y = .int (j : Int) ∧ SqL K H p xs ∧ xs[j]? = some v ∧ Q v H
theorem get_list {X : Cx} : PGet X (rGetL X.K) := by
  intro pins s σ H o i ov iv Q I ro ri h
  obtain ⟨p, xs, j, v, rfl, rfl, hq, hj, q⟩ := h
  cases ro
  obtain ⟨t, rfl⟩ := ri
  obtain ⟨its, r, pl, hz⟩ := I.list hq
  obtain ⟨u, eu, ru⟩ := r.get hj
  have hlt : j < xs.length := (List.getElem?_eq_some_iff.mp hj).1
  have h63 := line63
  refine wpAny_getItem_list (x := u) pl.isList (by omega) (by omega) (by simpa using eu) ?_
  exact ⟨v, H, I, ru, q⟩

/-- one statement, then the rest of a block, with what holds between -/
theorem cutB {X : Cx} {s : Stmt} {r : List Stmt} {D : Ends} {σ : L2.St} {H : Hp} (W : L2.St → Hp → Prop)
    (h2 : ∃ t2, PSs X r t2 ∧ ∀ σ' H', W σ' H' → t2 D σ' H')
    (h1 : ∃ t1, PS X s t1 ∧ ∀ nx : L2.St → Hp → Prop, (∀ σ' H', W σ' H' → nx σ' H') → t1 { D with nx := nx } σ H) :
    ∃ t, PSs X (s :: r) t ∧ t D σ H := by
  obtain ⟨t2, d2, k2⟩ := h2
  obtain ⟨t1, d1, k1⟩ := h1
  exact ⟨_, pss_cons d1 d2, k1 _ k2⟩

/-- no built-in name is taken by the module -/
structure BT (mg : Str → Option Value) : Prop where
  n_len : mg "len" = none
  n_int : mg "int" = none
  n_abs : mg "abs" = none
  n_range : mg "range" = none
  n_repr : mg "repr" = none
  n_isinstance : mg "isinstance" = none
  n_all : mg "all" = none
  n_tuple : mg "tuple" = none
  n_list : mg "list" = none
  n_str : mg "str" = none
  n_bool : mg "bool" = none
  n_dict : mg "dict" = none
  n_sorted : mg "sorted" = none

/-! ### the bag: a list of three ints and the cells; its ints are set aside -/
def bagL (b0 b1 b2 : Int) (c : Addr) : List V := [.int b0, .int b1, .int b2, .ref c]
structure BagI (b0 b1 b2 : Int) : Prop where
  h0 : 0 ≤ b0
  h1 : 0 ≤ b1
  h1' : b1 < 2147483647
  h2 : 0 ≤ b2
def bagP (a c : Addr) : Heap → Prop := fun h => ∃ (b0 b1 b2 : Int) (t0 t1 t2 : Tok) (n : Nat),
  h.get? a = some { cls := .type "list", data := .seq #[.int b0 t0, .int b1 t1, .int b2 t2, .ref c] n } ∧ BagI b0 b1 b2
def Bag (H : Hp) (a : Addr) : Prop := ∃ (c : Addr) (ns : List Int), H a = some (.ext (bagP a c)) ∧
  H c = some (.lst (ns.map V.int)) ∧ (∀ n ∈ ns, 0 ≤ n)
theorem Bag.up {H H' : Hp} {a : Addr} (e : Ext H H') : Bag H a → Bag H' a
  | ⟨c, ns, h1, h2, h3⟩ => ⟨c, ns, e _ _ h1, e _ _ h2, h3⟩

/-- a draw, the bag's ints told -/
def spTake0 : Sp := fun vs H Q _ => ∃ (a c : Addr) (b0 b1 b2 : Int) (ns : List Int) (m : Int),
  vs = [.ref a, .int m] ∧ H a = some (.lst (bagL b0 b1 b2 c)) ∧ H c = some (.lst (ns.map V.int)) ∧ (∀ n ∈ ns, 0 ≤ n) ∧
  BagI b0 b1 b2 ∧ 0 < m ∧ m < 1073741824 ∧
  ∀ (r x0 x1 x2 : Int), 0 ≤ r → r < m → BagI x0 x1 x2 → Q (.int r) (upd H a (.lst (bagL x0 x1 x2 c)))
/-- a draw, the bag set aside -/
def spTake : Sp := fun vs H Q _ => ∃ (a : Addr) (m : Int), vs = [.ref a, .int m] ∧ Bag H a ∧ 0 < m ∧ m < 1073741824 ∧
  ∀ r : Int, 0 ≤ r → r < m → Q (.int r) H

section
variable {P : Program} {w : World} {K : PySem.W.Frag} {mg : Str → Option Value} {base : Heap}

theorem hide {k : Nat} {f : Addr} {fd : FuncData} {ps : List Str} (F : FnOk P w K mg base CX0 k f fd ps spTake0) :
    FnOk P w K mg base CX0 k f fd ps spTake := by
  refine ⟨?_, ?_⟩
  · rintro vs H Q E ⟨a, m, rfl, ⟨c, ns, h1, h2, h3⟩, hm, hm2, q⟩
    have hca : c ≠ a := ne_of h2 h1 (fun z => nomatch z)
    exact F.len [.ref a, .int m] (upd H a (.lst (bagL 0 0 0 c))) (fun _ _ => True) E0
      ⟨a, c, 0, 0, 0, ns, m, rfl, upd_same, by rw [upd_ne hca]; exact h2, h3, ⟨by decide, by decide, by decide, by decide⟩, hm, hm2, fun _ _ _ _ _ _ _ => trivial⟩
  · rintro A outer s H args us vs Q E hr e0 hb rv ⟨a, m, rfl, ⟨c, ns, h1, h2, h3⟩, hm, hm2, q⟩
    have hca : c ≠ a := ne_of h2 h1 (fun z => nomatch z)
    obtain ⟨⟨b0, b1, b2, t0, t1, t2, n, eo, bi⟩, _, _⟩ := e0.hok a _ h1
    have mu : Mut (H a) := by
      rw [h1]
      trivial
    have nw : ObjOk P w (upd H a (.lst (bagL b0 b1 b2 c))) s.heap a (.lst (bagL b0 b1 b2 c)) :=
      ⟨by show 4 ≤ sizeLine; decide, [.int b0 t0, .int b1 t1, .int b2 t2, .ref c], n, .cons ⟨t0, rfl⟩ (.cons ⟨t1, rfl⟩ (.cons ⟨t2, rfl⟩ (.cons rfl .nil))), eo⟩
    have ok1 : HOk P w (upd H a (.lst (bagL b0 b1 b2 c))) s.heap := HOk.write e0.hok mu (Or.inl rfl) (fun _ _ _ z => z) ⟨_, eo⟩ nw
    have un1 : Un (frs outer) [] H (upd H a (.lst (bagL b0 b1 b2 c))) s.heap s.heap := Un.write mu (Or.inl rfl) (fun _ _ _ z => z) ⟨_, eo⟩
    have none1 : ∀ b, H b = none → upd H a (.lst (bagL b0 b1 b2 c)) b = none := fun b z => by
      rw [upd_ne (fun y => by rw [y, h1] at z; cases z)]
      exact z
    have e1 : Env0 P w K mg base A outer s (upd H a (.lst (bagL b0 b1 b2 c))) :=
      ⟨e0.frames, e0.mod, fun b o z => ⟨(e0.bs b o z).1, none1 b (e0.bs b o z).2⟩, e0.bsz, e0.funs, fun b z => none1 b (e0.frf b z), ok1, e0.bare⟩
    have run := F.run A outer s (upd H a (.lst (bagL b0 b1 b2 c))) args us [.ref a, .int m]
      (fun v H' => ∃ (r x0 x1 x2 : Int), v = .int r ∧ 0 ≤ r ∧ r < m ∧ BagI x0 x1 x2 ∧ H' = upd (upd H a (.lst (bagL b0 b1 b2 c))) a (.lst (bagL x0 x1 x2 c)))
      E hr e1 hb rv ⟨a, c, b0, b1, b2, ns, m, rfl, upd_same, by rw [upd_ne hca]; exact h2, h3, bi, hm, hm2, fun r x0 x1 x2 g1 g2 g3 => ⟨r, x0, x1, x2, rfl, g1, g2, g3, rfl⟩⟩
    refine codeAny_mono run ?_
    intro res s' h
    match res, h with
    | .error _, h => exact h.elim
    | .ok .next, h => exact h.elim
    | .ok .brk, h => exact h.elim
    | .ok .cont, h => exact h.elim
    | .ok (.ret u), h =>
      obtain ⟨v, H', os, bare, un, hok', rv', r, x0, x1, x2, rfl, g1, g2, g3, eH⟩ := h
      have hb' : H' a = some (.lst (bagL x0 x1 x2 c)) := by rw [eH, upd_same]
      have back : upd H' a (.ext (bagP a c)) = H := by
        rw [eH, upd_upd, upd_upd]
        funext b
        by_cases z : b = a
        · rw [z, upd_same, h1]
        · rw [upd_ne z]
      have mu' : Mut (H' a) := by
        rw [hb']
        trivial
      obtain ⟨_, its, n', r', eo'⟩ := hok' a _ hb'
      have shape : ∃ y0 y1 y2, its = [.int x0 y0, .int x1 y1, .int x2 y2, .ref c] := by
        cases r' with
        | cons q0 r' => cases r' with
          | cons q1 r' => cases r' with
            | cons q2 r' => cases r' with
              | cons q3 r' =>
                cases r'
                obtain ⟨y0, rfl⟩ := q0
                obtain ⟨y1, rfl⟩ := q1
                obtain ⟨y2, rfl⟩ := q2
                cases q3
                exact ⟨y0, y1, y2, rfl⟩
      obtain ⟨y0, y1, y2, rfl⟩ := shape
      have nw' : ObjOk P w (upd H' a (.ext (bagP a c))) s'.heap a (.ext (bagP a c)) := by
        refine ⟨⟨x0, x1, x2, y0, y1, y2, n', eo', g3⟩, ⟨_, eo'⟩, ?_⟩
        rintro g g' ⟨z0, z1, z2, w0, w1, w2, n2, e2, i2⟩ hk
        exact ⟨z0, z1, z2, w0, w1, w2, n2, hk _ e2, i2⟩
      have ok2 := HOk.write hok' mu' (Or.inl rfl) (fun _ _ _ z => z) ⟨_, eo'⟩ nw'
      have un2 : Un (frs outer) [] H' (upd H' a (.ext (bagP a c))) s'.heap s'.heap := Un.write mu' (Or.inl rfl) (fun _ _ _ z => z) ⟨_, eo'⟩
      rw [back] at ok2 un2
      exact ⟨.int r, H, os, bare, (un1.trans un).trans un2, ok2, rv', q r g1 g2⟩
end
end Ol

set_option Elab.async false
set_option linter.all false
set_option maxRecDepth 100000
set_option maxHeartbeats 4000000
namespace Ol
open PySem PySem.Spec PyProof.Rows L2

/-- what of H' is new over H -/
def nw (H H' : Hp) : Hp := fun b => match H b with
  | none => H' b
  | some _ => none
theorem nw_none {H H' : Hp} {b : Addr} (h : H b = none) : nw H H' b = H' b := by
  unfold nw
  rw [h]
theorem nw_some {H H' : Hp} {b : Addr} {o : HO} (h : H b = some o) : nw H H' b = none := by
  unfold nw
  rw [h]
theorem nw_ext {H H' : Hp} : Ext (nw H H') H' := fun b o e => by
  cases h : H b with
  | none => rwa [nw_none h] at e
  | some u =>
    rw [nw_some h] at e
    cases e
theorem nw_up {H H1 H2 : Hp} (e : Ext H1 H2) : Ext (nw H H1) (nw H H2) := fun b o q => by
  cases h : H b with
  | none =>
    rw [nw_none h] at q ⊢
    exact e b o q
  | some u =>
    rw [nw_some h] at q
    cases q
theorem nw_base {H0 H H' : Hp} (e : Ext H0 H) : Ext (nw H H') (nw H0 H') := fun b o q => by
  cases h : H b with
  | none => 
    rw [nw_none h] at q
    rw [nw_none (e.free h)]
    exact q
  | some u =>
    rw [nw_some h] at q
    cases q
theorem nw_dom {H0 H H' : Hp} (e : ∀ b, H b = none → H0 b = none) : Ext (nw H H') (nw H0 H') := fun b o q => by
  cases h : H b with
  | none =>
    rw [nw_none h] at q
    rw [nw_none (e b h)]
    exact q
  | some u =>
    rw [nw_some h] at q
    cases q
/-- from new over a later heap to new over an earlier one -/
theorem nw_mono {H0 H H1 H2 : Hp} (e : Ext H0 H) (f : Ext H1 H2) : Ext (nw H H1) (nw H0 H2) := (nw_base e).trans (nw_up f)
theorem nw_at {H H' : Hp} {p : Addr} {o : HO} (h : H p = none) : nw H (upd H' p o) p = some o := by rw [nw_none h, upd_same]
theorem nw_mut {H H' : Hp} {p : Addr} {o u : HO} (h : H p = some u) : Ext (nw H H') (nw H (upd H' p o)) := fun b z q => by
  cases g : H b with
  | none =>
    rw [nw_none g] at q ⊢
    rw [upd_ne (fun y => by rw [y, h] at g; cases g)]
    exact q
  | some _ =>
    rw [nw_some g] at q
    cases q

/-- a list comprehension without a test: its items are new things of which R holds -/
theorem lc_ext {J : It} {n : Nat} {G : Hp → Prop} {Y : Nat → Hp → V → Hp → Prop} (w : Walk J n G Y) {j : Nat} {te : TE} {σ : L2.St} {H1 : Hp} {D : Addr} {Qd : Hp → Prop}
    (R : Nat → V → Hp → Prop) (up : ∀ i v H H', Ext H H' → R i v H → R i v H') (hD : H1 D = none) (hn : n ≤ sizeLine) 
    (hG : ∀ H, Ext H1 H → G H)
    (hs : ∀ i x H H', i < n → Ext H1 H → Y i H x H' → Ext H H' ∧ ∀ Q : VK, (∀ y H4, Ext H' H4 → R i y (nw H' H4) → Q y H4) → te ((wipe σ [j]).set j (some x)) H' Q)
    (hd : ∀ H xs, Ext H1 H → H D = some (.lst xs) → xs.length = n → (∀ i y, xs[i]? = some y → R i y (nw H1 H)) → Qd H) :
    ∃ W : Nat → Nat → Hp → Prop, (∃ m, W 0 m (upd H1 D (.lst []))) ∧ ∀ i m H, W i m H →
      (J.stop i H ∧ Qd H) ∨ (J.go i H ∧ ∃ Nx : Hp → Prop, (∀ H', Nx H' → ∃ m', m' < m ∧ W (i + 1) m' H') ∧ ∀ x H', J.yld i H x H' → gName j x (wipe σ [j]) H' fun σ2 H2 => wipe σ2 [j] = wipe σ [j] ∧ tYes σ2 H2 fun b H3 =>
        if b = true then te σ2 H3 fun y H4 => ∃ acc, H4 D = some (.lst acc) ∧ acc.length < sizeLine ∧ Nx (upd H4 D (.lst (acc ++ [y]))) else Nx H3) := by
  let Hs : Hp := upd H1 D (.lst [])
  have hsD : Hs D = some (.lst []) := upd_same
  have e1 : Ext H1 Hs := Ext.new hD
  refine lc_it w (fun i H => ∃ xs, Ext H1 H ∧ H D = some (.lst xs) ∧ xs.length = i ∧ ∀ k y, xs[k]? = some y → R k y (nw Hs H))
    ⟨[], e1, hsD, rfl, fun k y z => by simp at z⟩ (by rintro i H _ ⟨xs, e, _⟩; exact hG H e) ?_ ?_
  · rintro i x H H' hi ⟨xs, e, hx, hl, hr⟩ y
    obtain ⟨e2, ht⟩ := hs i x H H' hi e y
    have hw : wipe ((wipe σ [j]).set j (some x)) [j] = wipe σ [j] := by
      show ((σ.set j none).set j (some x)).set j none = σ.set j none
      rw [List.set_set, List.set_set]
    refine ⟨hw, ?_⟩
    unfold tYes
    dsimp only
    rw [if_pos rfl]
    refine ht _ ?_
    intro v H4 e4 rv
    refine ⟨xs, e4 _ _ (e2 _ _ hx), by omega, xs ++ [v], ?_, upd_same, by rw [List.length_append, hl]; rfl, ?_⟩
    · exact Ext.mut ((e.trans e2).trans e4) hD
    · intro k u hk
      have toN : Ext (nw Hs H4) (nw Hs (upd H4 D (.lst (xs ++ [v])))) := nw_mut hsD
      by_cases hkl : k < xs.length
      · rw [List.getElem?_append_left hkl] at hk
        exact up _ _ _ _ ((nw_up (e2.trans e4)).trans toN) (hr k u hk)
      · have hk2 : k = xs.length := by
          have z := (List.getElem?_eq_some_iff.mp hk).1
          rw [List.length_append] at z
          simp at z
          omega
        subst hk2
        rw [List.getElem?_append_right (Nat.le_refl _), Nat.sub_self] at hk
        have hv : v = u := Option.some.inj hk
        subst hv
        rw [hl]
        have hsub : ∀ b, H' b = none → Hs b = none := by
          intro b q
          have q1 : H b = none := e2.free q
          have z : b ≠ D := fun z => by rw [z, hx] at q1; cases q1
          rw [show Hs b = H1 b from upd_ne z]
          exact e.free q1
        exact up _ _ _ _ ((nw_dom hsub).trans toN) rv
  · rintro H ⟨xs, e, hx, hl, hr⟩
    exact hd H xs e hx hl fun i y z => up _ _ _ _ (nw_base e1) (hr i y z)
end Ol

set_option Elab.async false
set_option linter.all false
set_option maxRecDepth 100000
set_option maxHeartbeats 4000000
namespace Ol
open PySem PySem.Spec PyProof.Rows L2

/-! ### comprehensions that leave the heap but for their list -/
theorem lc_det {J : It} {n : Nat} {G : Hp → Prop} {Y : Nat → Hp → V → Hp → Prop} (w : Walk J n G Y) {j : Nat} {tt : TT} {te : TE} {σ : L2.St} {H1 : Hp} {D : Addr} {Qd : Hp → Prop}
    (f : Nat → V) (p : Nat → Bool) (g : Nat → V) (hD : H1 D = none) (hn : n ≤ sizeLine)
    (hY : ∀ i H x H', i < n → Y i H x H' → H' = H ∧ x = f i) (hG : ∀ H, Ext H1 H → G H)
    (ht : ∀ i H, i < n → Ext H1 H → ∀ Q : Bool → Hp → Prop, Q (p i) H → tt ((wipe σ [j]).set j (some (f i))) H Q)
    (he : ∀ i H, i < n → p i = true → Ext H1 H → ∀ Q : VK, Q (g i) H → te ((wipe σ [j]).set j (some (f i))) H Q)
    (hd : Qd (upd H1 D (.lst (((List.range n).filter p).map g)))) :
    ∃ W : Nat → Nat → Hp → Prop, (∃ m, W 0 m (upd H1 D (.lst []))) ∧ ∀ i m H, W i m H →
      (J.stop i H ∧ Qd H) ∨ (J.go i H ∧ ∃ Nx : Hp → Prop, (∀ H', Nx H' → ∃ m', m' < m ∧ W (i + 1) m' H') ∧ ∀ x H', J.yld i H x H' → gName j x (wipe σ [j]) H' fun σ2 H2 => wipe σ2 [j] = wipe σ [j] ∧ tt σ2 H2 fun b H3 =>
        if b = true then te σ2 H3 fun y H4 => ∃ acc, H4 D = some (.lst acc) ∧ acc.length < sizeLine ∧ Nx (upd H4 D (.lst (acc ++ [y]))) else Nx H3) := by
  have ex : ∀ o, Ext H1 (upd H1 D o) := fun o => Ext.new hD
  refine lc_it w (fun i H => H = upd H1 D (.lst (((List.range i).filter p).map g))) rfl (by rintro i H _ rfl; exact hG _ (ex _)) ?_ (by rintro H rfl; exact hd)
  rintro i x H H' hi rfl y
  obtain ⟨rfl, rfl⟩ := hY i _ _ _ hi y
  have hw : wipe ((wipe σ [j]).set j (some (f i))) [j] = wipe σ [j] := by
    show ((σ.set j none).set j (some (f i))).set j none = σ.set j none
    rw [List.set_set, List.set_set]
  refine ⟨hw, ht i _ hi (ex _) _ ?_⟩
  cases hp : p i with
  | true =>
    rw [if_pos rfl]
    refine he i _ hi hp (ex _) _ ?_
    refine ⟨_, upd_same, ?_, ?_⟩
    · rw [List.length_map]
      have h1 := List.length_filter_le p (List.range i)
      rw [List.length_range] at h1
      omega
    · rw [upd_upd, List.range_succ, List.filter_append, List.map_append]
      rw [show [i].filter p = [i] by rw [List.filter_cons, if_pos hp, List.filter_nil]]
      rfl
  | false =>
    rw [if_neg Bool.false_ne_true, List.range_succ, List.filter_append]
    rw [show [i].filter p = [] by rw [List.filter_cons, if_neg (by rw [hp]; exact Bool.false_ne_true), List.filter_nil]]
    rw [List.append_nil]

/-- sign i of a text -/
def sg (x : Str) (i : Nat) : V := .str ⟨#[x.cps.toList.getD i 0]⟩
theorem its_sg {x : Str} : ∀ (i : Nat) (H : Hp) (v : V) (H' : Hp), i < x.cps.size → (H' = H ∧ ∃ c, x.cps[i]? = some c ∧ v = V.str ⟨#[c]⟩) → H' = H ∧ v = sg x i := by
  rintro i H v H' hi ⟨rfl, c, hc, rfl⟩
  refine ⟨rfl, ?_⟩
  unfold sg
  rw [List.getD_eq_getElem?_getD, Array.getElem?_toList, hc]
  rfl
theorem map_range_getD {α : Type} (h : Nat → α) : ∀ l : List Nat, (List.range l.length).map (fun i => h (l.getD i 0)) = l.map h
  | [] => rfl
  | a :: l => by
    rw [List.length_cons, List.range_succ_eq_map, List.map_cons, List.map_map, List.map_cons]
    congr 1
    exact map_range_getD h l
theorem filter_map_getD (p : Nat → Bool) : ∀ l : List Nat, ((List.range l.length).filter fun i => p (l.getD i 0)).map (fun i => l.getD i 0) = l.filter p
  | [] => rfl
  | a :: l => by
    rw [List.length_cons, List.range_succ_eq_map, List.filter_cons, List.filter_cons, List.filter_map]
    have ih := filter_map_getD p l
    by_cases h : p a = true
    · rw [if_pos h, if_pos (show p ((a :: l).getD 0 0) = true from h), List.map_cons, List.map_map]
      congr 1
    · rw [if_neg h, if_neg (show ¬ p ((a :: l).getD 0 0) = true from h), List.map_map]
      exact ih

/-! ### data, and what the package asks of any value -/
def tyD : PyData → String
  | .none => "NoneType"
  | .bool _ => "bool"
  | .int _ => "int"
  | .str _ => "str"
  | .list _ => "list"
  | .tuple _ => "tuple"
  | .dict _ => "dict"
theorem ty_of {K : PySem.W.Frag} {H : Hp} {v : V} {d : PyData} (h : Dq H v d) : TyX K H v (.type (tyD d)) := by
  cases h with
  | non => exact .base .non
  | bl b => exact .base (.bl b)
  | int i => exact .base (.int i)
  | str x => exact .base (.str x)
  | lst h _ => exact .base (.lst h)
  | tup h _ => exact .base (.tup h)
  | dct h _ => exact .base (.dK h)
def kI : PyData → Bool
  | .int _ => true
  | .bool _ => true
  | _ => false
def kB : PyData → Bool
  | .bool _ => true
  | _ => false
def kS : PyData → Bool
  | .str _ => true
  | _ => false
def kT : PyData → Bool
  | .tuple _ => true
  | _ => false
def kL : PyData → Bool
  | .list _ => true
  | _ => false
def kD : PyData → Bool
  | .dict _ => true
  | _ => false
section
variable {K : PySem.W.Frag}
theorem ki_int (d : PyData) : PySem.W.kitOne K (.type (tyD d)) (.type "int") = some (kI d) := by
  cases d <;> (simp only [tyD, kI]; exact kit_ty (by decide +kernel))
theorem ki_bool (d : PyData) : PySem.W.kitOne K (.type (tyD d)) (.type "bool") = some (kB d) := by
  cases d <;> (simp only [tyD, kB]; exact kit_ty (by decide +kernel))
theorem ki_str (d : PyData) : PySem.W.kitOne K (.type (tyD d)) (.type "str") = some (kS d) := by
  cases d <;> (simp only [tyD, kS]; exact kit_ty (by decide +kernel))
theorem ki_tuple (d : PyData) : PySem.W.kitOne K (.type (tyD d)) (.type "tuple") = some (kT d) := by
  cases d <;> (simp only [tyD, kT]; exact kit_ty (by decide +kernel))
theorem ki_list (d : PyData) : PySem.W.kitOne K (.type (tyD d)) (.type "list") = some (kL d) := by
  cases d <;> (simp only [tyD, kL]; exact kit_ty (by decide +kernel))
theorem ki_dict (d : PyData) : PySem.W.kitOne K (.type (tyD d)) (.type "dict") = some (kD d) := by
  cases d <;> (simp only [tyD, kD]; exact kit_ty (by decide +kernel))
end
def isIntD : PyData → Bool
  | .int _ => true
  | _ => false
theorem isIntD_eq (d : PyData) : isIntD d = (kI d && !kB d) := by cases d <;> rfl
def isNumD : PyData → Bool
  | .int i => decide (0 ≤ i)
  | _ => false
def abc : Str := "abcdefghijklmnopqrstuvwxyz"
def isNameS (x : Str) : Bool := decide (1 ≤ x.length ∧ x.length ≤ 8) && x.cps.toList.all fun c => decide (c ∈ abc.cps.toList)
def isNameD : PyData → Bool
  | .str x => isNameS x
  | _ => false
def isWordS (x : Str) : Bool := decide (x = "close" ∨ x = "ended" ∨ x = "send" ∨ x = "take")
def isWordD : PyData → Bool
  | .str x => isWordS x
  | _ => false
def isElseD : PyData → Bool
  | .str x => decide (x = "else")
  | _ => false
def isArmD : PyData → Bool
  | .tuple [a, b] => isElseD a && isNumD b
  | .tuple [a, b, c] => isWordD a && (isNameD b && isNumD c)
  | _ => false
theorem dq_int {H : Hp} {v : V} {d : PyData} (h : Dq H v d) (e : isIntD d = true) : ∃ i, v = .int i ∧ d = .int i := by
  cases h with
  | int i => exact ⟨i, rfl, rfl⟩
  | _ => cases e
theorem dq_str {H : Hp} {v : V} {d : PyData} (h : Dq H v d) (e : kS d = true) : ∃ x, v = .str x ∧ d = .str x := by
  cases h with
  | str x => exact ⟨x, rfl, rfl⟩
  | _ => cases e
theorem dq_tup {H : Hp} {v : V} {d : PyData} (h : Dq H v d) (e : kT d = true) : ∃ a xs ds, v = .ref a ∧ d = .tuple ds ∧ H a = some (.tup xs) ∧ DqAll H xs ds := by
  cases h with
  | tup h t => exact ⟨_, _, _, rfl, rfl, h, t⟩
  | _ => cases e

/-- a def that tells something of any data (of which C holds) -/
def spPred (C : PyData → Prop) (p : PyData → Bool) : Sp := fun vs H Q _ => ∃ v d, vs = [v] ∧ Dq H v d ∧ C d ∧
  ∀ H', Ext H H' → Q (.bl (p d)) H'
/-- a plain text of bounded length -/
def Tx (x : Str) : Prop := x.length ≤ 1000 ∧ ∀ c ∈ x.cps.toList, c < 128
def Ok1 (d : PyData) : Prop := ∀ x, d = .str x → Tx x
def OkT (d : PyData) : Prop := ∀ ds e, d = .tuple ds → e ∈ ds → Ok1 e
def Any (_ : PyData) : Prop := True

/-- the signs of a text asked one by one -/
theorem signs_all (x : Str) (p : Nat → Bool) : ((List.range x.cps.size).filter (fun _ => true)).map (fun i => V.bl (p (x.cps.toList.getD i 0))) = (x.cps.toList.map p).map V.bl := by
  rw [List.filter_eq_self.mpr (fun _ _ => rfl)]
  have h := map_range_getD (fun c => V.bl (p c)) x.cps.toList
  rw [Array.length_toList] at h
  rw [h, List.map_map]
  rfl
theorem signs_filter (x : Str) (p : Nat → Bool) : ((List.range x.cps.size).filter (fun i => p (x.cps.toList.getD i 0))).map (sg x) = (x.cps.toList.filter p).map fun c => V.str ⟨#[c]⟩ := by
  have h := filter_map_getD p x.cps.toList
  rw [Array.length_toList] at h
  rw [← h, List.map_map]
  rfl
theorem kS_not {d : PyData} (h : (!kS d) = true) : isNameD d = false := by
  cases d with
  | str x => cases h
  | _ => rfl
theorem kS_yes {d : PyData} (h : ¬ (!kS d) = true) : kS d = true := by
  cases e : kS d with
  | true => rfl
  | false => rw [e] at h; exact absurd rfl h
theorem isNameS_short {x : Str} (h : ¬ (1 ≤ x.length ∧ x.length ≤ 8)) : isNameS x = false := by
  unfold isNameS
  rw [decide_eq_false h, Bool.false_and]
theorem isNameS_long {x : Str} (h : 1 ≤ x.length ∧ x.length ≤ 8) : isNameS x = x.cps.toList.all fun c => decide (c ∈ abc.cps.toList) := by
  unfold isNameS
  rw [decide_eq_true h, Bool.true_and]
theorem all_id_map (p : Nat → Bool) : ∀ l : List Nat, (l.map p).all id = l.all p
  | [] => rfl
  | a :: l => by rw [List.map_cons, List.all_cons, List.all_cons, all_id_map p l]; rfl
theorem filter_empty_all (p : Nat → Bool) : ∀ l : List Nat, (l.filter fun c => !p c).isEmpty = l.all p
  | [] => rfl
  | a :: l => by
    rw [List.filter_cons, List.all_cons, ← filter_empty_all p l]
    cases p a <;> rfl
end Ol

set_option Elab.async false
set_option linter.all false
set_option maxRecDepth 100000
set_option maxHeartbeats 4000000
namespace Ol
open PySem PySem.Spec PyProof.Rows L2

/-- a def of the module, found by its name, and its promise -/
structure Ca (P : Program) (w : World) (K : PySem.W.Frag) (mg : Str → Option Value) (base : Heap)
    (k : Nat) (x : Str) (ps : List Str) (sp : Sp) : Prop where
  has : ∃ (f : Addr) (fd : FuncData), FnOk P w K mg base CX0 k f fd ps sp ∧ mg x = some (.ref f) ∧
    PySem.W.keepIn K (.ref f) = true ∧ Binds K fd ps []
/-- the same where no display is under way -/
structure Cg (P : Program) (w : World) (K : PySem.W.Frag) (mg : Str → Option Value) (base : Heap)
    (k : Nat) (x : Str) (ps : List Str) (sp : Sp) : Prop where
  has : ∃ (f : Addr) (fd : FuncData), FnG P w K mg base k f fd ps sp ∧ mg x = some (.ref f) ∧
    PySem.W.keepIn K (.ref f) = true ∧ Binds K fd ps []
section
variable {X : Cx} {k : Nat} {ps : List Str} {sp : Sp} {x : Str} {e : Expr} {es : List Expr} {t : TA} {p pos : Pos}
theorem pe_ca (C : Ca X.prog X.w X.K X.mg X.base k x ps sp) (hr : Room k X.A) (hg : Gl X x) (ha : PA X (e :: es) t)
    (hdb : (x == ("__debug__" : Str)) = false := by decide)
    (he : starEach (e :: es) X.env = (false, eval e X.env) :: starEach es X.env := by rfl)
    (hpl : (backTo pos (starEach es X.env)).any (·.1) = false := by rfl) :
    PE X (.Call (.Name x p) (e :: es) [] pos) (tCall sp [] E0 t) := by
  obtain ⟨f, fd, F, g, kp, b⟩ := C.has
  exact pe_call F hr hg g kp b .nil pass0 ha hdb he hpl
theorem pe_cg (C : Cg X.prog X.w X.K X.mg X.base k x ps sp) (hG : X.A.guards = some []) (hr : Room k X.A) (hg : Gl X x) (ha : PA X (e :: es) t)
    (hdb : (x == ("__debug__" : Str)) = false := by decide)
    (he : starEach (e :: es) X.env = (false, eval e X.env) :: starEach es X.env := by rfl)
    (hpl : (backTo pos (starEach es X.env)).any (·.1) = false := by rfl) :
    PE X (.Call (.Name x p) (e :: es) [] pos) (tCall sp [] E0 t) := by
  obtain ⟨f, fd, F, g, kp, b⟩ := C.has
  exact pe_callG F hG hr hg g kp b ha hdb he hpl
end

/-- == and != of data -/
def rEqQ : R2 := fun x y H Q => ∃ d e, Sys H ∧ Dq H x d ∧ Dq H y e ∧ SeqAt.shaped d = true ∧ SeqAt.shaped e = true ∧ Q (.bl (PyData.eqv d e)) H
def rNeQ : R2 := fun x y H Q => ∃ d e, Sys H ∧ Dq H x d ∧ Dq H y e ∧ SeqAt.shaped d = true ∧ SeqAt.shaped e = true ∧ Q (.bl (!PyData.eqv d e)) H
theorem op_eqQ {X : Cx} {k : Nat} (hr : Room k X.A) : OpR X (compareOp .Eq) rEqQ := by
  intro pins s σ H x y v u Q I rx ry h
  obtain ⟨d, e, S, hd, he, sd, se, q⟩ := h
  obtain ⟨as, r1, _⟩ := Dq.reads I S hd rx
  obtain ⟨bs, r2, _⟩ := Dq.reads I S he ry
  exact SeqAt.compareEq_shaped r1 r2 sd se hr.units ⟨.bl _, H, I, rfl, q⟩
theorem op_neQ {X : Cx} {k : Nat} (hr : Room k X.A) : OpR X (compareOp .NotEq) rNeQ := by
  intro pins s σ H x y v u Q I rx ry h
  obtain ⟨d, e, S, hd, he, sd, se, q⟩ := h
  obtain ⟨as, r1, _⟩ := Dq.reads I S hd rx
  obtain ⟨bs, r2, _⟩ := Dq.reads I S he ry
  exact SeqAt.compareNe_shaped r1 r2 sd se hr.units ⟨.bl _, H, I, rfl, q⟩

/-- data that may be shown -/
structure Fits (d : PyData) : Prop where
  sh : d.showable = true
  dep : d.depth ≤ 40
  len : d.shown.length ≤ sizeLine

/-- f(x, y) of two equal data gives True -/
def spAlike : Sp := fun vs H Q _ => ∃ v u d, vs = [v, u] ∧ Sys H ∧ Dq H v d ∧ Dq H u d ∧ SeqAt.shaped d = true ∧ Fits d ∧
  ∀ H', Ext H H' → Q (.bl true) H'
end Ol

set_option Elab.async false
set_option linter.all false
set_option maxRecDepth 100000
set_option maxHeartbeats 4000000
namespace Ol
open PySem PySem.Spec PyProof.Rows L2

/-- a new bag of a script's cells -/
def spBag0 (K : PySem.W.Frag) : Sp := fun vs H Q _ => ∃ (a : Addr) (ns : List Int), vs = [.ref a] ∧ SqL K H a (ns.map V.int) ∧ ns.length ≤ 1000 ∧
  ∀ (p c : Addr) (cs : List Int) (H' : Hp), H p = none → Ext H H' → H' p = some (.lst (bagL 0 1234567891 0 c)) → H' c = some (.lst (cs.map V.int)) → (∀ n ∈ cs, 0 ≤ n) → c ≠ p → Q (.ref p) H'
def spBag (K : PySem.W.Frag) : Sp := fun vs H Q _ => ∃ (a : Addr) (ns : List Int), vs = [.ref a] ∧ SqL K H a (ns.map V.int) ∧ ns.length ≤ 1000 ∧
  ∀ (p : Addr) (H' : Hp), Ext H H' → Bag H' p → Q (.ref p) H'
section
variable {P : Program} {w : World} {K : PySem.W.Frag} {mg : Str → Option Value} {base : Heap}
theorem hideBag {k : Nat} {f : Addr} {fd : FuncData} {ps : List Str} (F : FnOk P w K mg base CX0 k f fd ps (spBag0 K)) :
    FnOk P w K mg base CX0 k f fd ps (spBag K) := by
  refine ⟨?_, ?_⟩
  · rintro vs H Q E ⟨a, ns, rfl, h1, h2, q⟩
    exact F.len [.ref a] H (fun _ _ => True) E0 ⟨a, ns, rfl, h1, h2, fun _ _ _ _ _ _ _ _ _ _ => trivial⟩
  · rintro A outer s H args us vs Q E hr e0 hb rv ⟨a, ns, rfl, h1, h2, q⟩
    have run := F.run A outer s H args us [.ref a]
      (fun v H' => ∃ (p c : Addr) (cs : List Int), v = .ref p ∧ H p = none ∧ Ext H H' ∧ H' p = some (.lst (bagL 0 1234567891 0 c)) ∧ H' c = some (.lst (cs.map V.int)) ∧ (∀ n ∈ cs, 0 ≤ n) ∧ c ≠ p)
      E hr e0 hb rv ⟨a, ns, rfl, h1, h2, fun p c cs H' g1 g2 g3 g4 g5 g6 => ⟨p, c, cs, rfl, g1, g2, g3, g4, g5, g6⟩⟩
    refine codeAny_mono run ?_
    intro res s' h
    match res, h with
    | .error _, h => exact h.elim
    | .ok .next, h => exact h.elim
    | .ok .brk, h => exact h.elim
    | .ok .cont, h => exact h.elim
    | .ok (.ret u), h =>
      obtain ⟨v, H', os, bare, un, hok', rv', p, c, cs, rfl, g1, g2, g3, g4, g5, g6⟩ := h
      have mu' : Mut (H' p) := by
        rw [g3]
        trivial
      obtain ⟨_, its, n', r', eo'⟩ := hok' p _ g3
      have shape : ∃ y0 y1 y2, its = [.int 0 y0, .int 1234567891 y1, .int 0 y2, .ref c] := by
        cases r' with
        | cons q0 r' => cases r' with
          | cons q1 r' => cases r' with
            | cons q2 r' => cases r' with
              | cons q3 r' =>
                cases r'
                obtain ⟨y0, rfl⟩ := q0
                obtain ⟨y1, rfl⟩ := q1
                obtain ⟨y2, rfl⟩ := q2
                cases q3
                exact ⟨y0, y1, y2, rfl⟩
      obtain ⟨y0, y1, y2, rfl⟩ := shape
      have nw' : ObjOk P w (upd H' p (.ext (bagP p c))) s'.heap p (.ext (bagP p c)) := by
        refine ⟨⟨0, 1234567891, 0, y0, y1, y2, n', eo', by decide, by decide, by decide, by decide⟩, ⟨_, eo'⟩, ?_⟩
        rintro g g' ⟨z0, z1, z2, w0, w1, w2, n2, e2, i2⟩ hk
        exact ⟨z0, z1, z2, w0, w1, w2, n2, hk _ e2, i2⟩
      have ok2 := HOk.write hok' mu' (Or.inl rfl) (fun _ _ _ z => z) ⟨_, eo'⟩ nw'
      have un2 : Un (frs outer) [] H' (upd H' p (.ext (bagP p c))) s'.heap s'.heap := Un.write mu' (Or.inl rfl) (fun _ _ _ z => z) ⟨_, eo'⟩
      refine ⟨.ref p, upd H' p (.ext (bagP p c)), os, bare, un.trans un2, ok2, rv', q p _ (Ext.mut g2 g1) ⟨c, cs, upd_same, ?_, g5⟩⟩
      rw [upd_ne g6]
      exact g4
end

theorem map_range_getI (h : Int → V) : ∀ l : List Int, (List.range l.length).map (fun i => h (l.getD i 0)) = l.map h
  | [] => rfl
  | a :: l => by
    rw [List.length_cons, List.range_succ_eq_map, List.map_cons, List.map_map, List.map_cons]
    congr 1
    exact map_range_getI h l
theorem cut_ints (ns : List Int) (lo hi : Option Int) : ∃ cs : List Int, cutV (ns.map V.int) lo hi = cs.map V.int ∧ cs.length ≤ ns.length := by
  unfold cutV
  refine ⟨(ns.drop (HT.sIx (ns.map V.int).length 0 lo)).take (HT.sIx (ns.map V.int).length (ns.map V.int).length hi - HT.sIx (ns.map V.int).length 0 lo), ?_, ?_⟩
  · rw [List.map_take, List.map_drop]
  · rw [List.length_take, List.length_drop]
    omega
end Ol

set_option Elab.async false
set_option linter.all false
set_option maxRecDepth 100000
set_option maxHeartbeats 4000000
namespace Ol
open PySem PySem.Spec PyProof.Rows L2
open TL (tl joinL join_eq tl_join)

theorem tlen (x : Str) : x.length = (tl x).length := by
  show x.cps.size = x.cps.toList.length
  rw [Array.length_toList]
theorem tl_inj {x y : Str} (h : tl x = tl y) : x = y := by
  obtain ⟨⟨a⟩⟩ := x
  obtain ⟨⟨b⟩⟩ := y
  have h' : a = b := h
  rw [h']
theorem tl_app (x y : Str) : tl (x ++ y) = tl x ++ tl y := by
  show (x.cps ++ y.cps).toList = _
  rw [Array.toList_append]
theorem joinL_nil : ∀ ls : List (List Nat), joinL [] ls = ls.flatten
  | [] => rfl
  | [p] => by show p = [p].flatten; simp
  | p :: q :: r => by
    show p ++ ([] ++ joinL [] (q :: r)) = _
    rw [joinL_nil (q :: r), List.nil_append]
    rfl
def one (c : Nat) : Str := ⟨#[c]⟩
theorem join_signs (cs : List Nat) : tl (Txt.join "" (cs.map one)) = cs := by
  rw [join_eq, tl_join]
  show joinL [] _ = cs
  rw [joinL_nil, List.map_map]
  induction cs with
  | nil => rfl
  | cons a l ih =>
    rw [List.map_cons, List.flatten_cons, ih]
    rfl
theorem ones_len : ∀ cs : List Nat, ((cs.map one).map (·.length)).sum = cs.length
  | [] => rfl
  | a :: l => by
    rw [List.map_cons, List.map_cons, List.sum_cons, ones_len l, List.length_cons]
    show 1 + l.length = l.length + 1
    omega
theorem cut_drop (xs : List V) (t : Nat) : cutV xs (some (t : Int)) none = xs.drop t := by
  unfold cutV
  rw [HT.sIx_none, HT.sIx_nat]
  by_cases h : t ≤ xs.length
  · rw [Nat.min_eq_left h, List.take_of_length_le]
    rw [List.length_drop]
    exact Nat.le_refl _
  · rw [Nat.min_eq_right (by omega), Nat.sub_self, List.take_zero, List.drop_of_length_le (by omega)]
theorem cut_take (xs : List V) (t : Nat) : cutV xs none (some (t : Int)) = xs.take t := by
  unfold cutV
  rw [HT.sIx_none, HT.sIx_nat, Nat.sub_zero, List.drop_zero]
  by_cases h : t ≤ xs.length
  · rw [Nat.min_eq_left h]
  · rw [Nat.min_eq_right (by omega), List.take_of_length_le (Nat.le_refl _), List.take_of_length_le (by omega)]
theorem cutS_drop (z : Str) (t : Nat) : tl (cutS z (some (t : Int)) none) = (tl z).drop t := by
  unfold cutS
  rw [HT.sIx_none, HT.sIx_nat]
  have hl := tlen z
  show List.take _ _ = _
  by_cases h : t ≤ z.length
  · rw [Nat.min_eq_left h, List.take_of_length_le]
    rw [List.length_drop, hl]
    exact Nat.le_refl _
  · rw [Nat.min_eq_right (by omega), Nat.sub_self, List.take_zero, List.drop_of_length_le (by omega)]
theorem cutS_take (z : Str) (t : Nat) : tl (cutS z none (some (t : Int))) = (tl z).take t := by
  unfold cutS
  rw [HT.sIx_none, HT.sIx_nat, Nat.sub_zero]
  have hl := tlen z
  show List.take _ (List.drop 0 _) = _
  rw [List.drop_zero]
  by_cases h : t ≤ z.length
  · rw [Nat.min_eq_left h]
  · rw [Nat.min_eq_right (by omega), List.take_of_length_le (by rw [hl]; exact Nat.le_refl _), List.take_of_length_le (by omega)]

def abcL : List Nat := tl abc
theorem abc_at : ∀ r, r < 26 → abcL[r]? = some (97 + r) := by decide +kernel
theorem abc_mem {r : Nat} (h : r < 26) : 97 + r ∈ abcL := List.mem_of_getElem? (abc_at r h)
theorem abc_low : ∀ c ∈ abcL, c < 128 := by decide +kernel
theorem name_of {x : Str} (h1 : 1 ≤ (tl x).length) (h2 : (tl x).length ≤ 8) (h3 : ∀ c ∈ tl x, c ∈ abcL) : isNameS x = true := by
  rw [isNameS_long (by rw [tlen]; exact ⟨h1, h2⟩), List.all_eq_true]
  exact fun c hc => decide_eq_true (h3 c hc)
theorem name_tl {x : Str} (h : isNameS x = true) : 1 ≤ (tl x).length ∧ (tl x).length ≤ 8 ∧ ∀ c ∈ tl x, c ∈ abcL := by
  unfold isNameS at h
  rw [Bool.and_eq_true] at h
  have h1 := of_decide_eq_true h.1
  rw [tlen] at h1
  exact ⟨h1.1, h1.2, fun c hc => of_decide_eq_true (List.all_eq_true.mp h.2 c hc)⟩
theorem name_tx {x : Str} (h : isNameS x = true) : Tx x := by
  obtain ⟨_, h2, h3⟩ := name_tl h
  exact ⟨by rw [tlen]; omega, fun c hc => abc_low c (h3 c hc)⟩

/-- new names, all different -/
structure Names (ys : List Str) (m : Nat) : Prop where
  len : ys.length = m
  nd : ys.Nodup
  ok : ∀ y ∈ ys, isNameS y = true

def wordsA : Str := "send take ended close else first any step quit server back again where log a b ab ba z"
def wordsB : Str := " stuck seat sticks lane"
def wordL : List Str := ["send", "take", "ended", "close", "else", "first", "any", "step", "quit", "server", "back", "again", "where", "log", "a", "b", "ab", "ba", "z", "stuck", "seat", "sticks", "lane"]
theorem split_words : Txt.split (wordsA ++ wordsB) " " = wordL := by decide +kernel
theorem wordL_ok : ∀ y ∈ wordL, isNameS y = true := by decide +kernel
theorem wordL_rot : ∀ t, t < 20 → (wordL.drop t ++ wordL.take t).Nodup := by decide +kernel
theorem names0 (t m : Nat) (ht : t < 20) (hm : m ≤ 20) : Names ((wordL.drop t ++ wordL.take t).take m) m := by
  refine ⟨?_, (wordL_rot t ht).sublist (List.take_sublist _ _), fun y hy => ?_⟩
  · rw [List.length_take, List.length_append, List.length_drop, List.length_take]
    have e : wordL.length = 23 := rfl
    omega
  · have h := List.mem_of_mem_take hy
    rcases List.mem_append.mp h with h | h
    · exact wordL_ok y (List.mem_of_mem_drop h)
    · exact wordL_ok y (List.mem_of_mem_take h)
def let1 (t k : Nat) : Nat := 97 + (t + 3 * k) % 26
theorem names1 (t m : Nat) (hm : m ≤ 8) : Names ((List.range m).map fun k => one (let1 t k)) m := by
  refine ⟨by rw [List.length_map, List.length_range], ?_, ?_⟩
  · rw [List.nodup_iff_pairwise_ne, List.pairwise_map]
    refine (List.pairwise_lt_range (n := m)).imp_of_mem ?_
    intro a b ha hb hab e
    have ha := List.mem_range.mp ha
    have hb := List.mem_range.mp hb
    have e1 : [let1 t a] = [let1 t b] := congrArg tl e
    have e2 : let1 t a = let1 t b := by injection e1
    unfold let1 at e2
    omega
  · intro y hy
    obtain ⟨k, _, rfl⟩ := List.mem_map.mp hy
    refine name_of (Nat.le_refl 1) (by show 1 ≤ 8; decide) fun c hc => ?_
    have hc' : c ∈ [let1 t k] := hc
    rw [List.mem_singleton] at hc'
    rw [hc']
    exact abc_mem (Nat.mod_lt _ (by decide))
/-- the names of the third style, as texts with these signs -/
theorem names2 (cs : List Nat) (at_ t m : Nat) (f : Nat → Str) (hc1 : 1 ≤ cs.length) (hc7 : cs.length ≤ 7) (hc : ∀ c ∈ cs, c ∈ abcL) (hm : m ≤ 8) (ha : at_ ≤ cs.length)
    (hf : ∀ k, k < m → tl (f k) = cs.take at_ ++ [let1 t k] ++ cs.drop at_) : Names ((List.range m).map f) m := by
  refine ⟨by rw [List.length_map, List.length_range], ?_, ?_⟩
  · rw [List.nodup_iff_pairwise_ne, List.pairwise_map]
    refine (List.pairwise_lt_range (n := m)).imp_of_mem ?_
    intro a b ha hb hab e
    have ha := List.mem_range.mp ha
    have hb := List.mem_range.mp hb
    have e1 := congrArg tl e
    rw [hf a ha, hf b hb, List.append_assoc, List.append_assoc] at e1
    have e2 := List.append_cancel_left e1
    have e3 : let1 t a = let1 t b := by
      simp only [List.cons_append, List.nil_append, List.cons.injEq] at e2
      exact e2.1
    unfold let1 at e3
    omega
  · intro y hy
    obtain ⟨k, hk, rfl⟩ := List.mem_map.mp hy
    have hk := List.mem_range.mp hk
    refine name_of ?_ ?_ fun c hc' => ?_
    · rw [hf k hk]
      simp
      omega
    · rw [hf k hk]
      simp
      omega
    · rw [hf k hk] at hc'
      simp only [List.mem_append, List.mem_singleton] at hc'
      rcases hc' with (h | h) | h
      · exact hc c (List.mem_of_mem_take h)
      · rw [h]
        exact abc_mem (Nat.mod_lt _ (by decide))
      · exact hc c (List.mem_of_mem_drop h)
/-- texts of one sign each -/
theorem ones_of {n : Nat} {xs : List V} (h : xs.length = n) (hr : ∀ (i : Nat) (y : V), xs[i]? = some y → ∃ c, c ∈ abcL ∧ y = .str (one c)) :
    ∃ cs : List Nat, xs = (cs.map one).map V.str ∧ cs.length = n ∧ ∀ c ∈ cs, c ∈ abcL := by
  induction xs generalizing n with
  | nil => exact ⟨[], rfl, h, fun _ z => by cases z⟩
  | cons v xs ih =>
    obtain ⟨cs, e, hl, hc⟩ := ih (n := xs.length) rfl fun i y z => hr (i + 1) y (by rw [List.getElem?_cons_succ]; exact z)
    obtain ⟨c, hm, rfl⟩ := hr 0 v rfl
    refine ⟨c :: cs, by rw [e]; rfl, by rw [← h, List.length_cons, List.length_cons, hl], fun x hx => ?_⟩
    rcases List.mem_cons.mp hx with z | z
    · rw [z]
      exact hm
    · exact hc x z
/-- names drawn from a bag -/
def spNames : Sp := fun vs H Q _ => ∃ (a : Addr) (m : Int), vs = [.ref a, .int m] ∧ Bag H a ∧ 1 ≤ m ∧ m ≤ 8 ∧
  ∀ (p : Addr) (ys : List Str) (H' : Hp), Ext H H' → H p = none → H' p = some (.lst (ys.map V.str)) → Names ys m.toNat → Q (.ref p) H'
end Ol

set_option Elab.async false
set_option linter.all false
set_option maxRecDepth 100000
set_option maxHeartbeats 4000000
namespace Ol
open PySem PySem.Spec PyProof.Rows L2
open TL (tl)

/-! ### s * n, n small -/
def repS (z : Str) (n : Nat) : Str := if n = 0 then Str.empty else if n = 1 then z else ⟨(List.replicate n z.cps).foldl (· ++ ·) #[]⟩
def rRepS : R2 := fun x y H Q => ∃ (z : Str) (n : Nat), x = .str z ∧ y = .int (n : Int) ∧ n ≤ 1000 ∧ z.length = 1 ∧ (repS z n).length ≤ sizeLine ∧ Q (.str (repS z n)) H
theorem op_repS {X : Cx} : OpR X (binaryOp .Mult) rRepS := by
  intro pins s σ H x y v u Q I rx ry h
  obtain ⟨z, n, rfl, rfl, hn, hz, hl, q⟩ := h
  obtain ⟨t, rfl⟩ := rx
  obtain ⟨t', rfl⟩ := ry
  have tl0 : ¬ (n : Int) < 1 → ((n : Int) == 1 || z.length == 0) = false → Builtin.Str.tooLong (z.length * (n : Int).toNat) = false := by
    intro _ _
    unfold Builtin.Str.tooLong
    exact decide_eq_false (by rw [hz]; show ¬ _ > 2 ^ 24; omega)
  refine PySem.P.mul_str ?_ ?_ tl0 ?_
  · rw [decide_eq_false (by omega), decide_eq_false (by omega)]
    rfl
  · intro h1 h2 h3
    have h4 : 0 < (n : Int) := by omega
    have h5 : ((2 : Int) ^ 63 - 1) / n ≥ 1 := Int.le_ediv_of_mul_le h4 (by omega)
    rw [hz] at h3
    omega
  · by_cases h0 : n = 0
    · subst h0
      exact ⟨by decide, .str Str.empty, H, I.tok _, ⟨_, rfl⟩, q⟩
    · rw [if_neg (by omega)]
      by_cases h1 : n = 1
      · subst h1
        rw [if_pos (show (((1 : Nat) : Int) == 1 || z.length == 0) = true from rfl)]
        exact ⟨.str z, H, I, ⟨_, rfl⟩, q⟩
      · have hf : ((n : Int) == 1 || z.length == 0) = false := by
          rw [hz, Bool.or_eq_false_iff]
          exact ⟨beq_eq_false_iff_ne.mpr (by omega), rfl⟩
        rw [hf, if_neg Bool.false_ne_true]
        have e : repS z n = ⟨(List.replicate (n : Int).toNat z.cps).foldl (· ++ ·) #[]⟩ := by
          unfold repS
          rw [if_neg h0, if_neg h1]
          rfl
        rw [e] at q hl
        exact ⟨hl, .str _, H, I.tok _, ⟨_, rfl⟩, q⟩

def far (n : Nat) : Str := "1" ++ repS "0" n
theorem far_int : ∀ n, n < 40 → PySem.intText? (far n) = some (10 ^ n) := by decide +kernel
theorem far_len : ∀ n, n < 40 → (far n).length ≤ 640 ∧ (repS "0" n).length ≤ 1000 := by decide +kernel
theorem pow_fit : ∀ n, n < 40 → ((10 : Int) ^ n).natAbs.log2 < 1920 ∧ (-(10 : Int) ^ n).natAbs.log2 < 1920 := by decide +kernel
theorem pow_len : ∀ n, n < 40 → ((toString ((10 : Int) ^ n) : String) : Str).length ≤ 200 ∧ ((toString (-(10 : Int) ^ n) : String) : Str).length ≤ 200 := by decide +kernel

/-! ### sizes of what is shown -/
theorem pile_le {B : Nat} : ∀ ts : List Str, (∀ t ∈ ts, t.length ≤ B) → piled ts ≤ ts.length * (B + 2)
  | [], _ => Nat.zero_le _
  | t :: ts, h => by
    rw [piled_cons, List.length_cons, Nat.succ_mul]
    have h1 := h t List.mem_cons_self
    have h2 := pile_le ts fun x hx => h x (List.mem_cons_of_mem _ hx)
    omega
theorem join_le (ts : List Str) : (Str.join ", " ts).length ≤ piled ts := by
  by_cases h : ts = []
  · subst h
    exact Nat.zero_le _
  · have := join_length_add ts h
    omega
theorem listText_le (ts : List Str) : (listText ts).length ≤ piled ts + 2 := by
  have e1 : ((("[" : String) : Str)).length = 1 := rfl
  have e2 : ((("]" : String) : Str)).length = 1 := rfl
  rw [listText_eq_join, strLen_append, strLen_append, e1, e2]
  have := join_le ts
  omega
theorem tupleText_le (ts : List Str) : (tupleText ts).length ≤ piled ts + 3 := by
  have e3 : (((if ts.length == 1 then ",)" else ")" : String) : Str)).length ≤ 2 := by split <;> decide +kernel
  have e1 : ((("(" : String) : Str)).length = 1 := rfl
  unfold tupleText
  rw [strLen_append, strLen_append, e1]
  have := join_le ts
  omega
theorem dictText_le (ts : List Str) : (dictText ts).length ≤ piled ts + 2 := by
  have e1 : ((("{" : String) : Str)).length = 1 := rfl
  have e2 : ((("}" : String) : Str)).length = 1 := rfl
  unfold dictText
  rw [strLen_append, strLen_append, e1, e2]
  have := join_le ts
  omega

/-! ### data as a law draws it: how deep, how long when shown -/
structure Gd (n : Nat) (d : PyData) : Prop where
  sh : d.showable = true
  dep : d.depth ≤ n + 1
  len : d.shown.length ≤ 200 * 8 ^ n
  ok1 : Ok1 d
  okt : OkT d
theorem Gd.up {n m : Nat} {d : PyData} (g : Gd n d) (h : n ≤ m) : Gd m d :=
  ⟨g.sh, Nat.le_trans g.dep (by omega), Nat.le_trans g.len (Nat.mul_le_mul_left _ (Nat.pow_le_pow_right (by decide) h)), g.ok1, g.okt⟩
theorem Gd.fits {n : Nat} {d : PyData} (g : Gd n d) (h : n ≤ 5) : Fits d :=
  ⟨g.sh, Nat.le_trans g.dep (by omega), Nat.le_trans (g.up h).len (by decide)⟩
theorem nope1 {d : PyData} (h : kS d = false) : Ok1 d := fun x e => by rw [e] at h; cases h
theorem nopeT {d : PyData} (h : kT d = false) : OkT d := fun ds e z _ => by rw [z] at h; cases h
theorem gd_non : Gd 0 .none := ⟨by simp [PyData.showable], by simp [PyData.depth], by decide +kernel, nope1 rfl, nopeT rfl⟩
theorem gd_bl (b : Bool) : Gd 0 (.bool b) := ⟨by simp [PyData.showable], by simp [PyData.depth], by cases b <;> decide +kernel, nope1 rfl, nopeT rfl⟩
theorem gd_int (i : Int) (h1 : i.natAbs.log2 < 1920) (h2 : ((toString i : String) : Str).length ≤ 200) : Gd 0 (.int i) :=
  ⟨by simpa [PyData.showable] using h1, by simp [PyData.depth], by simpa [PyData.shown] using h2, nope1 rfl, nopeT rfl⟩
theorem gd_str (x : Str) (h1 : x.length ≤ 19) (h2 : ∀ c ∈ tl x, c < 128) : Gd 0 (.str x) := by
  refine ⟨by simp [PyData.showable], by simp [PyData.depth], ?_, fun y e => ?_, nopeT rfl⟩
  · simp only [PyData.shown]
    have h := StrLaws.reprText_len x fun c hc => Nat.lt_of_lt_of_le (h2 c hc) (by decide)
    omega
  · cases e
    exact ⟨by omega, h2⟩
theorem pow8 (n : Nat) : 200 ≤ 200 * 8 ^ n := Nat.le_mul_of_pos_right _ (Nat.pow_pos (by decide))
theorem all_sh {n : Nat} : ∀ {ds : List PyData}, (∀ d ∈ ds, Gd n d) → PyData.showableAll ds = true ∧ PyData.depthAll ds ≤ n + 1 ∧ (∀ t ∈ PyData.shownAll ds, t.length ≤ 200 * 8 ^ n) ∧ (PyData.shownAll ds).length = ds.length
  | [], _ => ⟨by simp [PyData.showableAll], by simp [PyData.depthAll], fun t h => by simp [PyData.shownAll] at h, by simp [PyData.shownAll]⟩
  | d :: ds, h => by
    have g := h d List.mem_cons_self
    obtain ⟨h1, h2, h3, h4⟩ := all_sh fun x hx => h x (List.mem_cons_of_mem _ hx)
    refine ⟨by simp [PyData.showableAll, g.sh, h1], ?_, fun t ht => ?_, by simp [PyData.shownAll, h4]⟩
    · simp only [PyData.depthAll]
      exact Nat.max_le.mpr ⟨g.dep, h2⟩
    · simp only [PyData.shownAll] at ht
      rcases List.mem_cons.mp ht with e | e
      · rw [e]
        exact g.len
      · exact h3 t e
theorem gd_size {n : Nat} {ds : List PyData} (h : ∀ d ∈ ds, Gd n d) (h5 : ds.length ≤ 5) : piled (PyData.shownAll ds) + 3 ≤ 200 * 8 ^ (n + 1) := by
  obtain ⟨_, _, h3, h4⟩ := all_sh h
  have z := pile_le _ h3
  have p := pow8 n
  rw [h4] at z
  have z2 : ds.length * (200 * 8 ^ n + 2) ≤ 5 * (200 * 8 ^ n + 2) := Nat.mul_le_mul_right _ h5
  rw [Nat.pow_succ]
  omega
theorem gd_list {n : Nat} {ds : List PyData} (h : ∀ d ∈ ds, Gd n d) (h5 : ds.length ≤ 5) : Gd (n + 1) (.list ds) := by
  obtain ⟨h1, h2, _, _⟩ := all_sh h
  have z := gd_size h h5
  refine ⟨by simpa [PyData.showable] using h1, by simp only [PyData.depth]; omega, ?_, nope1 rfl, nopeT rfl⟩
  simp only [PyData.shown]
  have := listText_le (PyData.shownAll ds)
  omega
theorem gd_tuple {n : Nat} {ds : List PyData} (h : ∀ d ∈ ds, Gd n d) (h5 : ds.length ≤ 5) : Gd (n + 1) (.tuple ds) := by
  obtain ⟨h1, h2, _, _⟩ := all_sh h
  have z := gd_size h h5
  refine ⟨by simpa [PyData.showable] using h1, by simp only [PyData.depth]; omega, ?_, nope1 rfl, fun es e he hm => ?_⟩
  · simp only [PyData.shown]
    have := tupleText_le (PyData.shownAll ds)
    omega
  · cases he
    exact (h e hm).ok1
theorem gd_nil : Gd 0 (.list []) := ⟨by simp [PyData.showable, PyData.showableAll], by simp [PyData.depth, PyData.depthAll], by decide +kernel, nope1 rfl, nopeT rfl⟩
theorem gd_tnil : Gd 0 (.tuple []) := ⟨by simp [PyData.showable, PyData.showableAll], by simp [PyData.depth, PyData.depthAll], by decide +kernel, nope1 rfl, fun ds e he hm => by cases he; cases hm⟩
theorem gd_dnil : Gd 0 (.dict []) := ⟨by simp [PyData.showable, PyData.showableKv], by simp [PyData.depth, PyData.depthKv], by decide +kernel, nope1 rfl, nopeT rfl⟩
theorem gd_dict1 {n : Nat} {d : PyData} (g : Gd n d) : Gd (n + 1) (.dict [(.str "a", d)]) := by
  refine ⟨by simp [PyData.showable, PyData.showableKv, g.sh], ?_, ?_, nope1 rfl, nopeT rfl⟩
  · simp only [PyData.depth, PyData.depthKv]
    have := g.dep
    omega
  · simp only [PyData.shown, PyData.shownKv]
    have h1 := dictText_le [reprText "a" ++ ": " ++ d.shown]
    have h2 : piled [reprText "a" ++ ": " ++ d.shown] = (reprText "a" ++ ": " ++ d.shown).length + 2 := by simp [piled]
    have h3 : (reprText "a" ++ ": " ++ d.shown).length = 5 + d.shown.length := by
      rw [strLen_append, strLen_append]
      have e : (reprText "a").length = 3 := by decide +kernel
      have e2 : ((": " : Str)).length = 2 := rfl
      omega
    have h4 := g.len
    have p := pow8 n
    rw [Nat.pow_succ]
    omega
/-- a value that stands for such data -/
def Th (n : Nat) (v : V) (H : Hp) : Prop := ∃ d, Dq H v d ∧ Gd n d
theorem Th.up {n m : Nat} {v : V} {H H' : Hp} (h : Th n v H) (e : Ext H H') (hn : n ≤ m) : Th m v H' := by
  obtain ⟨d, h1, h2⟩ := h
  exact ⟨d, h1.up e, h2.up hn⟩
/-- a list of such values -/
theorem th_all {n : Nat} {H : Hp} : ∀ {xs : List V}, (∀ x ∈ xs, Th n x H) → ∃ ds, DqAll H xs ds ∧ (∀ d ∈ ds, Gd n d) ∧ ds.length = xs.length
  | [], _ => ⟨[], .nil, (fun _ h => nomatch h), rfl⟩
  | x :: xs, h => by
    obtain ⟨d, h1, h2⟩ := h x List.mem_cons_self
    obtain ⟨ds, h3, h4, h5⟩ := th_all fun y hy => h y (List.mem_cons_of_mem _ hy)
    refine ⟨d :: ds, .cons h1 h3, fun e he => ?_, by rw [List.length_cons, List.length_cons, h5]⟩
    rcases List.mem_cons.mp he with z | z
    · rw [z]
      exact h2
    · exact h4 e z
theorem th_list {n : Nat} {H : Hp} {p : Addr} {xs : List V} (hp : H p = some (.lst xs)) (h : ∀ x ∈ xs, Th n x H) (h5 : xs.length ≤ 5) : Th (n + 1) (.ref p) H := by
  obtain ⟨ds, h1, h2, h3⟩ := th_all h
  exact ⟨_, .lst hp h1, gd_list h2 (by omega)⟩
theorem th_tuple {n : Nat} {H : Hp} {p : Addr} {xs : List V} (hp : H p = some (.tup xs)) (h : ∀ x ∈ xs, Th n x H) (h5 : xs.length ≤ 5) : Th (n + 1) (.ref p) H := by
  obtain ⟨ds, h1, h2, h3⟩ := th_all h
  exact ⟨_, .tup hp h1, gd_tuple h2 (by omega)⟩
/-- a text drawn from a bag -/
def spText : Sp := fun vs H Q _ => ∃ (a : Addr), vs = [.ref a] ∧ Bag H a ∧ ∀ (x : Str) (H' : Hp), Ext H H' → x.length ≤ 19 → (∀ c ∈ tl x, c < 128) → Q (.str x) H'
/-- a value drawn from a bag, so deep -/
def spPart (n : Nat) : Sp := fun vs H Q _ => ∃ (a : Addr), vs = [.ref a, .int (n : Int)] ∧ Bag H a ∧ ∀ (v : V) (H' : Hp), Ext H H' → Th (2 * n) v (nw H H') → Q v H'
def spThing : Sp := fun vs H Q _ => ∃ (a : Addr), vs = [.ref a] ∧ Bag H a ∧ ∀ (v : V) (H' : Hp), Ext H H' → Th 5 v H' → Q v H'
end Ol

set_option Elab.async false
set_option linter.all false
set_option maxRecDepth 100000
set_option maxHeartbeats 4000000
namespace Ol
open PySem PySem.Spec PyProof.Rows L2

/-- one statement of several -/
theorem cutW {X : Cx} {s : Stmt} {r : List Stmt} {D : Ends} (U W : L2.St → Hp → Prop)
    (h1 : ∃ t1, PS X s t1 ∧ ∀ nx : L2.St → Hp → Prop, (∀ σ' H', W σ' H' → nx σ' H') → ∀ σ H, U σ H → t1 { D with nx := nx } σ H)
    (h2 : ∃ t2, PSs X r t2 ∧ ∀ σ H, W σ H → t2 D σ H) : ∃ t, PSs X (s :: r) t ∧ ∀ σ H, U σ H → t D σ H := by
  obtain ⟨t2, d2, k2⟩ := h2
  obtain ⟨t1, d1, k1⟩ := h1
  exact ⟨_, pss_cons d1 d2, fun σ H u => k1 _ k2 σ H u⟩
theorem tyes {σ : L2.St} {H : Hp} {A B : Hp → Prop} (h : A H) : tYes σ H (fun b H3 => if b = true then A H3 else B H3) := by
  unfold tYes
  dsimp only
  rw [if_pos rfl]
  exact h
/-- any list comprehension of one clause: P holds of the turn, the list so far, and what is new -/
theorem lc_acc {J : It} {n : Nat} {G : Hp → Prop} {Y : Nat → Hp → V → Hp → Prop} (w : Walk J n G Y) {g : TG} {tt : TT} {te : TE} {vs : List Nat} {σ : L2.St} {H1 : Hp} {D : Addr} {Qd : Hp → Prop}
    (P : Nat → List V → Hp → Prop) (up : ∀ i xs H H', Ext H H' → P i xs H → P i xs H') (h0 : P 0 [] (fun _ => none)) (hD : H1 D = none)
    (hlen : ∀ i xs H, P i xs H → xs.length ≤ i) (hn : n ≤ sizeLine) (hG : ∀ H, Ext H1 H → G H)
    (hs : ∀ i x H H' xs, i < n → Ext H1 H → Y i H x H' → P i xs (nw (upd H1 D (.lst [])) H) →
      ∀ (QY : V → Hp → Prop) (QN : Hp → Prop),
        (∀ y H4, Ext H H4 → ((∀ Hz, Ext (nw H H4) Hz → P i xs Hz → P (i + 1) (xs ++ [y]) Hz)) → QY y H4) →
        (∀ H4, Ext H H4 → (∀ Hz, P i xs Hz → P (i + 1) xs Hz) → QN H4) →
        g x (wipe σ vs) H' fun σ2 H2 => wipe σ2 vs = wipe σ vs ∧ tt σ2 H2 fun b H3 => if b = true then te σ2 H3 QY else QN H3)
    (hd : ∀ H xs, Ext H1 H → H D = some (.lst xs) → P n xs (nw H1 H) → Qd H) :
    ∃ W : Nat → Nat → Hp → Prop, (∃ m, W 0 m (upd H1 D (.lst []))) ∧ ∀ i m H, W i m H →
      (J.stop i H ∧ Qd H) ∨ (J.go i H ∧ ∃ Nx : Hp → Prop, (∀ H', Nx H' → ∃ m', m' < m ∧ W (i + 1) m' H') ∧ ∀ x H', J.yld i H x H' → g x (wipe σ vs) H' fun σ2 H2 => wipe σ2 vs = wipe σ vs ∧ tt σ2 H2 fun b H3 =>
        if b = true then te σ2 H3 fun y H4 => ∃ acc, H4 D = some (.lst acc) ∧ acc.length < sizeLine ∧ Nx (upd H4 D (.lst (acc ++ [y]))) else Nx H3) := by
  let Hs : Hp := upd H1 D (.lst [])
  have hsD : Hs D = some (.lst []) := upd_same
  have e1 : Ext H1 Hs := Ext.new hD
  refine lc_it w (fun i H => ∃ xs, Ext H1 H ∧ H D = some (.lst xs) ∧ P i xs (nw Hs H))
    ⟨[], e1, hsD, up 0 [] _ _ (fun _ o z => by have z' : (none : Option HO) = some o := z; cases z') h0⟩ (by rintro i H _ ⟨xs, e, _⟩; exact hG H e) ?_ ?_
  · rintro i x H H' hi ⟨xs, e, hx, hp⟩ y
    have dom : ∀ b, H b = none → Hs b = none := by
      intro b q
      have z : b ≠ D := fun z => by rw [z, hx] at q; cases q
      rw [show Hs b = H1 b from upd_ne z]
      exact e.free q
    refine hs i x H H' xs hi e y hp _ _ ?_ ?_
    · intro v H4 e4 k
      refine ⟨xs, e4 _ _ hx, by have := hlen _ _ _ hp; omega, xs ++ [v], Ext.mut (e.trans e4) hD, upd_same, ?_⟩
      have toN : Ext (nw Hs H4) (nw Hs (upd H4 D (.lst (xs ++ [v])))) := nw_mut hsD
      exact k _ ((nw_dom dom).trans toN) (up _ _ _ _ ((nw_up e4).trans toN) hp)
    · intro H4 e4 k
      exact ⟨xs, e.trans e4, e4 _ _ hx, k _ (up _ _ _ _ (nw_up e4) hp)⟩
  · rintro H ⟨xs, e, hx, hp⟩
    exact hd H xs e hx (up _ _ _ _ (nw_base e1) hp)
end Ol

set_option Elab.async false
set_option linter.all false
set_option maxRecDepth 100000
set_option maxHeartbeats 4000000
namespace Ol
open PySem PySem.Spec PyProof.Rows L2

/-- x in o, o an instance of a class with its own __contains__ -/
def rInO (C : Addr) (sp : Sp) : R2 := fun x y H Q => ∃ (a dx : Addr) (fs : List (Str × V)), y = .ref a ∧ H a = some (.ins C dx fs) ∧
  sp [.ref a, x] H (fun v H' => ∃ b, v = .bl b ∧ Q (.bl b) H') E0
def rNotInO (C : Addr) (sp : Sp) : R2 := fun x y H Q => ∃ (a dx : Addr) (fs : List (Str × V)), y = .ref a ∧ H a = some (.ins C dx fs) ∧
  sp [.ref a, x] H (fun v H' => ∃ b, v = .bl b ∧ Q (.bl (!b)) H') E0
section
variable {X : Cx} {k : Nat} {C f : Addr} {fd : FuncData} {ps : List Str} {sp : Sp}
theorem op_inO (F : FnOk X.prog X.w X.K X.mg X.base CX0 k f fd ps sp) (hr : Room k X.A) (hs : PySem.W.findIn X.K (.ref C) "__contains__" = some (some (.ref f)))
    (hf : PySem.W.isFn X.K (.ref f) = true) (b : Binds X.K fd ps []) : OpR X (compareOp .In) (rInO C sp) := by
  intro pins s σ H x y v u Q I rx ry h
  obtain ⟨a, dx, fs, rfl, ho, h⟩ := h
  cases ry
  obtain ⟨mA, O, _⟩ := ins_get I.hok ho
  obtain ⟨od, J, _⟩ := O.look
  obtain ⟨m, fr⟩ := I.fr
  refine PySem.W.in_K fr I.ok.mod.kin J hs hf ?_
  refine wpAny_mono (run_fn (us := [.ref a, v]) (vs := [.ref a, x]) (E := E0) F hr b .nil pass0 I (.cons rfl (.cons rx .nil)) h) ?_ (fun _ _ z => z)
  rintro r s' ⟨w, H', I', rw', b', rfl, q⟩
  cases rw'
  exact wpAny_truthy_bool ⟨.bl b', H', I', rfl, q⟩
theorem op_notInO (F : FnOk X.prog X.w X.K X.mg X.base CX0 k f fd ps sp) (hr : Room k X.A) (hs : PySem.W.findIn X.K (.ref C) "__contains__" = some (some (.ref f)))
    (hf : PySem.W.isFn X.K (.ref f) = true) (b : Binds X.K fd ps []) : OpR X (compareOp .NotIn) (rNotInO C sp) := by
  intro pins s σ H x y v u Q I rx ry h
  obtain ⟨a, dx, fs, rfl, ho, h⟩ := h
  cases ry
  obtain ⟨mA, O, _⟩ := ins_get I.hok ho
  obtain ⟨od, J, _⟩ := O.look
  obtain ⟨m, fr⟩ := I.fr
  refine PySem.W.notIn_K fr I.ok.mod.kin J hs hf ?_
  refine wpAny_mono (run_fn (us := [.ref a, v]) (vs := [.ref a, x]) (E := E0) F hr b .nil pass0 I (.cons rfl (.cons rx .nil)) h) ?_ (fun _ _ z => z)
  rintro r s' ⟨w, H', I', rw', b', rfl, q⟩
  cases rw'
  exact wpAny_truthy_bool ⟨.bl (!b'), H', I', rfl, q⟩
end
end Ol

set_option Elab.async false
set_option linter.all false
set_option maxRecDepth 100000
set_option maxHeartbeats 4000000
namespace Ol
open PySem PySem.Spec PyProof.Rows L2

/-! ### enumerate(t), t a tuple -/
theorem meets_enumerate_new1 {v : Value} {o : Obj} {H : Heap → Prop} (B : Begins v o H) :
    Meets (Builtin.«enumerate.__new__» ⟨[.type "enumerate", v], []⟩) (fun _ R s => H s.heap ∧
      R (.ok (.ret (.ref (s.heap.push o).objs.size))) { s with heap := (s.heap.push o).push { cls := .type "enumerate", data := .fields #[.none, .bool false, .ref s.heap.objs.size, rawInt 0, .none, .none] } }) :=
  .of_wp fun prog w A R s h => by
    obtain ⟨hp, g, d, tk, os⟩ := s
    obtain ⟨h1, h⟩ := h
    have hsub := sub_enumerate
    have q1 : ∀ {A' : Around} {E : Value → Shared → Prop} {Q : Value → Shared → Prop}, Q (.ref hp.objs.size) ⟨hp.push o, g, d, tk, os⟩ → wpAny (model prog w) A' (pyIter v) Q E ⟨hp, g, d, tk, os⟩ :=
      fun q => B.iter prog w _ _ ⟨hp, g, d, tk, os⟩ _ h1 q
    wp_walk using q1
    refine wpAny_stack_any fun st => wpAny_pure ?_
    split
    · rename_i c _ _ _ _ _
      cases (c == Value.type "enumerate")
      · wp_walk using q1
        exact ⟨_, rfl, h⟩
      · wp_walk using q1
        exact ⟨_, rfl, h⟩
    · wp_walk using q1
      exact ⟨_, rfl, h⟩
section
variable {prog : Program} {w : World} {A : Around} {E : Value → Shared → Prop} {s : Shared}
theorem enum_begins1 {v : Value} {o : Obj} {H : Heap → Prop} {Q : Value → Shared → Prop} (B : Begins v o H) (h1 : H s.heap)
    (h : ∀ h', IsEnum h' (s.heap.objs.size + 1) s.heap.objs.size 0 .none → h'.get? s.heap.objs.size = some o → h'.objs.size = s.heap.objs.size + 2 →
      (∀ b o, s.heap.get? b = some o → h'.get? b = some o) → Q (.ref (s.heap.objs.size + 1)) { s with heap := h' }) :
    wpAny (model prog w) A (call (.type "enumerate") [v]) Q E s := by
  refine callType_new F.called_enumerate (by decide) (F.typeCall_enumerate_1 _) (F.newCall_enumerate_1 _) (fun obj => F.args_object_init_2 obj _) F.entry_enumerate_new
    (meets_enumerate_new1 B) ⟨h1, ?_⟩
  have hz : (s.heap.push o).objs.size = s.heap.objs.size + 1 := Heap.size_push ..
  show _ ∧ _
  rw [hz]
  have he : IsEnum ((s.heap.push o).push { cls := .type "enumerate", data := .fields #[.none, .bool false, .ref s.heap.objs.size, rawInt 0, .none, .none] }) (s.heap.objs.size + 1) s.heap.objs.size 0 .none := by
    have := Heap.get?_push_size (s.heap.push o) (o := { cls := .type "enumerate", data := .fields #[.none, .bool false, .ref s.heap.objs.size, rawInt 0, .none, .none] }) rfl
    rw [hz] at this; exact this
  refine ⟨⟨_, he, rfl⟩, h _ he (Heap.get?_push_of_some _ (Heap.get?_push_size _ B.free)) (by rw [Heap.size_push, hz]) fun b o x => Heap.get?_push_of_some _ (Heap.get?_push_of_some _ x)⟩
end
/-- the tuple at a as it stands, each item with its place in a new pair -/
def IteT (K : PySem.W.Frag) (a : Addr) : It :=
  ⟨fun i H => ∃ (xs : List V) (x : V), SqT K H a xs ∧ xs[i]? = some x, fun i H v H' => ∃ T x, v = .ref T ∧ H T = none ∧ H' = upd H T (.tup [.int (i : Nat), x]) ∧ ∀ xs, SqT K H a xs → xs[i]? = some x, fun i H => ∃ xs : List V, SqT K H a xs ∧ xs.length ≤ i⟩
theorem turn_enumT {P : Program} {w : World} {K : PySem.W.Frag} {elts : List Expr} {kk : Nat} {tpos : Pos} (a e it : Addr) :
    Turn P w K (.Tuple elts kk tpos) (IteT K a) [e, it] e (fun i h => (∃ old, IsEnum h e it ((i : Nat) : Int) old) ∧ h.IsTupleIter it a i ∧ e ≠ it ∧ a ≠ it ∧ e ≠ a) where
  mem := by simp
  obj := fun i h st b hb => by
    obtain ⟨⟨old, he⟩, ⟨o, ho, hc, hd⟩, _⟩ := st
    have e' : b = e ∨ b = it := by simpa using hb
    rcases e' with z | z
    · rw [z]; exact ⟨_, he, fun v q => nomatch q⟩
    · rw [z]; exact ⟨o, ho, fun v q => by rw [hd] at q; cases q⟩
  keep := fun i h h' st k => let ⟨⟨old, he⟩, hi, hne⟩ := st; ⟨⟨old, k e (by simp) _ he⟩, hi.at fun o q => k it (by simp) o q, hne⟩
  item := by
    intro X hP hw hK hc i pins s σ H E I hf st hg
    subst hP hw hK
    obtain ⟨⟨old, he⟩, hit, hne, hai, hea⟩ := st
    obtain ⟨xs, x, hq, hx⟩ := hg
    obtain ⟨its, rv, p, hz⟩ := I.tuple hq
    obtain ⟨u, hu, ru⟩ := rv.get hx
    have hel : e < s.heap.objs.size := Heap.lt_size he
    have hil : it < s.heap.objs.size := by obtain ⟨_, q, _⟩ := hit; exact Heap.lt_size q
    have hlt : i < its.toArray.size := by have := rv.length; have := (List.getElem?_eq_some_iff.mp hx).1; simp; omega
    refine wpAny_pyNext_enum_itemD (Draws.tuple (A := X.A.in1) (show X.A.in1.handled = none from I.ok.hd hc) it a hai its.toArray) he ⟨hit, p⟩ hlt hne (by simp [hne, hea]) fun u' h' tk hu' ho st' hT hsz hk => ?_
    have eu : u' = u := by
      have z : its.toArray[i]? = some u := by simpa using hu
      rw [z] at hu'
      exact (Option.some.inj hu').symm
    subst eu
    refine ⟨_, rfl, wpAny_letOwnedTupleGo_enum (s := { s with heap := h', toks := tk + 1 }) ho fun h'' he' sb => ?_⟩
    have hT2 : h''.get? s.heap.objs.size = some { cls := .type "tuple", data := .seq #[.int i tk, u'] } := (sb.2 _ (Nat.ne_of_gt hel)).trans hT
    have new : ObjOk X.prog X.w (upd H s.heap.objs.size (.tup [.int (i : Nat), x])) h'' s.heap.objs.size (.tup [.int (i : Nat), x]) :=
      ⟨by show 2 ≤ sizeLine; decide, [.int i tk, u'], .cons ⟨_, rfl⟩ (.cons ru .nil), ⟨_, hT2, rfl, _, rfl⟩⟩
    have I1 : Inv X pins σ (upd H s.heap.objs.size (.tup [.int (i : Nat), x])) { s with heap := h'', toks := tk + 1 } :=
      I.turnedNew (ch := [e, it]) (fun b ob hb q => (sb.2 b (fun z => hb (by simp [z]))).trans (hk b ob (fun z => hb (by simp [z])) (fun z => hb (by simp [z])) q)) hf (Nat.le_refl _) new
    refine ⟨.ref s.heap.objs.size, _, I1, rfl, ⟨_, x, rfl, I.hok.fresh (Nat.le_refl _), rfl, fun ys hy => by rw [I.tuple_inj hy hq]; exact hx⟩, ⟨⟨u', ?_⟩, st'.1.at fun o q => (sb.2 it (Ne.symm hne)).trans q, hne, hai, hea⟩, fun b hb => ?_⟩
    · have e1 : ((i + 1 : Nat) : Int) = (i : Int) + 1 := by omega
      rw [e1]; exact he'
    · have hb' : b < s.heap.objs.size := by
        have e' : b = e ∨ b = it := by simpa using hb
        rcases e' with z | z
        · rw [z]; exact hel
        · rw [z]; exact hil
      rw [upd_ne (Nat.ne_of_lt hb')]
      exact (hf b hb).1
  done := by
    intro X hP hw hK hc i pins s σ H E I hf st hg
    subst hP hw hK
    obtain ⟨⟨old, he⟩, hit, hne, hai, hea⟩ := st
    obtain ⟨xs, hq, hx⟩ := hg
    obtain ⟨its, rv, p, hz⟩ := I.tuple hq
    obtain ⟨f0, f1, f2, f3, f4, f5⟩ := hf it (by simp)
    have hl := rv.length
    have hT : s.TypeIs (.ref e) "enumerate" := ⟨_, he, rfl⟩
    unfold pyNext
    refine wpAny_bind (wpAny_attempt (wpAny_callSpecial?_slot (name := Str.ofString "__next__") hT F.slot_enumerate_next
      (wpAny_call_entry F.slot_enumerate_next hT F.entry_enumerate_next ?_ (F.args_enumerate_next_1 _))))
    show wpAny _ _ (field (.ref e) 2 >>= _) _ _ _
    refine wpAny_bind (wpAny_field he rfl (x := .ref it) rfl ?_)
    refine wpAny_bind (wpAny_nextOf_tuple_end (I.ok.hd hc) hit p (by simp; omega) fun h' x he' hx' => ?_)
    obtain ⟨o, ho, hcl⟩ := hx'
    refine wpAny_bind (wpAny_isInstance (T := "StopIteration") (b := true) ⟨o, ho, hcl⟩ isSubtype_stop ?_)
    exact wpAny_pure ⟨rfl, I.turned (t' := s.toks) (fun b o hb q => he' b o hb q) f0 f1 f3 f4 f5⟩
  self := fun A i s Q E st h => let ⟨⟨_, he⟩, _⟩ := st; wpAny_pyIter_enum he h
def iEnumT (K : PySem.W.Frag) (ta : TA) : TI := fun σ H R => ta σ H fun vs H1 => ∃ a xs, vs = [.ref a] ∧ SqT K H1 a xs ∧ R (IteT K a) H1
theorem pi_enumT {X : Cx} {e : Expr} {ta : TA} {p pos tpos : Pos} {elts : List Expr} {kk : Nat} (hg : Gl X "enumerate") (hm : X.mg "enumerate" = none) (ha : PA X [e] ta) (hs : starEach [e] X.env = [(false, eval e X.env)] := by rfl) :
    PI X (.Tuple elts kk tpos) (.Call (.Name "enumerate" p) [e] [] pos) (iEnumT X.K ta) := by
  refine ⟨fun pins s σ H R I h => ?_⟩
  refine Call_ (ld_blt I hg hm boot_enumerate (PyProof.Rows.callWith_type1 (thn (ha.run pos pins s σ H _ I h) fun us s1 ⟨vs, H1, I1, r1, q1⟩ => ?_) hs rfl))
  obtain ⟨a, xs, ex, hq, q⟩ := q1
  subst ex
  cases r1 with
  | cons r rr =>
    cases rr
    cases r
    obtain ⟨its, rv, p', hz⟩ := I1.tuple hq
    have hal : a < s1.heap.objs.size := by obtain ⟨_, q, _⟩ := p'; exact Heap.lt_size q
    refine enum_begins1 (begins_tuple a its.toArray) p' fun h' he hit hsz hk => wpAny_pyIter_enum he ?_
    have I2 : Inv X pins σ H1 { s1 with heap := h' } := I1.kept (t' := s1.toks) hk
    refine ⟨s1.heap.objs.size + 1, [s1.heap.objs.size + 1, s1.heap.objs.size], _, _, H1, rfl, I2, turn_enumT a (s1.heap.objs.size + 1) s1.heap.objs.size, ⟨⟨.none, he⟩, ⟨_, hit, rfl, rfl⟩, Nat.succ_ne_self _, Nat.ne_of_lt hal, Nat.ne_of_gt (Nat.lt_succ_of_lt hal)⟩, fun b hb => ?_, q⟩
    have e' : b = s1.heap.objs.size + 1 ∨ b = s1.heap.objs.size := by simpa using hb
    have hle : s1.heap.objs.size ≤ b := by
      rcases e' with z | z
      · rw [z]; exact Nat.le_add_right _ _
      · rw [z]; exact Nat.le_refl _
    exact I1.fpOk hle (I1.hok.fresh hle)
theorem walk_enumT {K : PySem.W.Frag} {a : Addr} {xs : List V} : Walk (IteT K a) xs.length (fun H => SqT K H a xs) (YPair (fun i => some (.int (i : Nat))) (fun i => xs[i]?)) := by
  refine ⟨fun i _ hi q => ⟨xs, xs[i], q, by simp [hi]⟩, fun _ q => ⟨xs, q, Nat.le_refl _⟩, fun i H v H' _ q y => ?_⟩
  obtain ⟨T, x, h1, h2, h3, h4⟩ := y
  exact ⟨T, .int (i : Nat), x, h1, h2, h3, rfl, h4 xs q⟩
end Ol

set_option Elab.async false
set_option linter.all false
set_option maxRecDepth 100000
set_option maxHeartbeats 4000000
namespace Ol
open PySem PySem.Spec PyProof.Rows L2

/-- a dict comprehension over any walk -/
theorem dc_it {J : It} {n : Nat} {G : Hp → Prop} {Y : Nat → Hp → V → Hp → Prop} (w : Walk J n G Y) {g : TG} {tt : TT} {tk tv : TE} {vs : List Nat} {σ : L2.St} {H1 : Hp} {D : Addr} {Qd : Hp → Prop} (Pv : Nat → Hp → Prop)
    (h0 : Pv 0 (upd H1 D (.dK []))) (hG : ∀ i H, i ≤ n → Pv i H → G H)
    (hs : ∀ i x H H', i < n → Pv i H → Y i H x H' → g x (wipe σ vs) H' fun σ2 H2 => wipe σ2 vs = wipe σ vs ∧ tt σ2 H2 fun b H3 =>
      if b = true then tk σ2 H3 fun y H4 => tv σ2 H4 fun z H5 => ∃ kvs k, y = kV k ∧ H5 D = some (.dK kvs) ∧ kvs.length < sizeLine ∧ Pv (i + 1) (upd H5 D (.dK (putK kvs k z))) else Pv (i + 1) H3) (hd : ∀ H, Pv n H → Qd H) :
    ∃ W : Nat → Nat → Hp → Prop, (∃ m, W 0 m (upd H1 D (.dK []))) ∧ ∀ i m H, W i m H →
      (J.stop i H ∧ Qd H) ∨ (J.go i H ∧ ∃ Nx : Hp → Prop, (∀ H', Nx H' → ∃ m', m' < m ∧ W (i + 1) m' H') ∧ ∀ x H', J.yld i H x H' → g x (wipe σ vs) H' fun σ2 H2 => wipe σ2 vs = wipe σ vs ∧ tt σ2 H2 fun b H3 =>
        if b = true then tk σ2 H3 fun y H4 => tv σ2 H4 fun z H5 => ∃ kvs k, y = kV k ∧ H5 D = some (.dK kvs) ∧ kvs.length < sizeLine ∧ Nx (upd H5 D (.dK (putK kvs k z))) else Nx H3) := by
  refine ⟨fun i m H => m = n - i ∧ i ≤ n ∧ Pv i H, ⟨n, by simp, Nat.zero_le _, h0⟩, ?_⟩
  rintro i m H ⟨rfl, hi, p⟩
  have q := hG i H hi p
  by_cases hlt : i < n
  · exact .inr ⟨w.goes i H hlt q, Pv (i + 1), fun H' p' => ⟨n - (i + 1), by omega, rfl, hlt, p'⟩, fun x H' y => hs i x H H' hlt p (w.yields i H x H' hlt q y)⟩
  · have e : i = n := by omega
    subst e
    exact .inl ⟨w.stops H q, hd H p⟩

/-- names and their places, as a dict holds them -/
def spots (ns : List Str) : List (Key × V) := ns.zipIdx.map fun p => (.inr p.1, .int (p.2 : Int))
theorem spots_len (ns : List Str) : (spots ns).length = ns.length := by unfold spots; rw [List.length_map, List.length_zipIdx]
theorem spots_snoc (ns : List Str) (x : Str) : spots (ns ++ [x]) = spots ns ++ [(.inr x, .int (ns.length : Int))] := by
  unfold spots
  rw [List.zipIdx_append, List.map_append]
  simp
theorem valV_none {kvs : List (Key × V)} {k : Key} (h : ∀ p ∈ kvs, p.1 ≠ k) : valV kvs k = none := by
  induction kvs with
  | nil => rfl
  | cons p r ih => rw [valV_neg (h p List.mem_cons_self), ih fun q hq => h q (List.mem_cons_of_mem _ hq)]
theorem putK_new {kvs : List (Key × V)} {k : Key} {v : V} (h : valV kvs k = none) : putK kvs k v = kvs ++ [(k, v)] := by
  unfold putK
  rw [valV_any, h]
  rfl
theorem spots_key (ns : List Str) : (spots ns).map (·.1) = ns.map Sum.inr := by
  unfold spots
  rw [List.map_map]
  have h : ∀ (l : List Str) (k : Nat), (l.zipIdx k).map ((fun p : Key × V => p.1) ∘ fun p => (Sum.inr p.1, V.int (p.2 : Int))) = l.map Sum.inr := by
    intro l
    induction l with
    | nil => intro k; rfl
    | cons a l ih =>
      intro k
      rw [List.zipIdx_cons, List.map_cons, ih]
      rfl
  exact h ns 0
theorem spots_none {ns : List Str} {x : Str} (h : x ∉ ns) : valV (spots ns) (.inr x) = none := by
  refine valV_none fun p hp e => h ?_
  have z : p.1 ∈ (spots ns).map (·.1) := List.mem_map_of_mem hp
  rw [spots_key, e] at z
  obtain ⟨y, hy, ey⟩ := List.mem_map.mp z
  cases ey
  exact hy
theorem spots_val {ns : List Str} (hd : ns.Nodup) {i : Nat} (hi : i < ns.length) : valV (spots ns) (.inr ns[i]) = some (.int (i : Int)) := by
  unfold spots
  have h : ∀ (l : List Str) (k i : Nat) (hi : i < l.length), l.Nodup → valV ((l.zipIdx k).map fun p => ((.inr p.1, .int (p.2 : Int)) : Key × V)) (.inr l[i]) = some (.int ((k + i : Nat) : Int)) := by
    intro l
    induction l with
    | nil => intro k i hi; cases hi
    | cons a l ih =>
      intro k i hi hn
      rw [List.zipIdx_cons, List.map_cons]
      cases i with
      | zero => exact valV_pos rfl
      | succ i =>
        rw [List.nodup_cons] at hn
        have hi' : i < l.length := by simpa using hi
        rw [valV_neg]
        · show valV _ (Sum.inr l[i]) = _
          rw [ih (k + 1) i hi' hn.2]
          rw [show k + 1 + i = k + (i + 1) by omega]
        · intro z
          have z' : a = l[i] := Sum.inr.inj z
          exact hn.1 (z' ▸ List.getElem_mem hi')
  have z := h ns 0 i hi hd
  rw [Nat.zero_add] at z
  exact z
end Ol

set_option Elab.async false
set_option linter.all false
set_option maxRecDepth 100000
set_option maxHeartbeats 4000000
namespace Ol
open PySem PySem.Spec PyProof.Rows L2

/-- a method of class C and its promise -/
structure Cm (P : Program) (w : World) (K : PySem.W.Frag) (mg : Str → Option Value) (base : Heap)
    (C : Addr) (k : Nat) (m : Str) (ps : List Str) (sp : Sp) : Prop where
  has : ∃ (f : Addr) (fd : FuncData), FnOk P w K mg base CX0 k f fd ps sp ∧ Meth K C m f ∧ Binds K fd ps []
section
variable {X : Cx} {k : Nat} {C : Addr} {ps : List Str} {sp : Sp} {m : Str} {o e : Expr} {es : List Expr} {ta : TE} {t : TA} {apos pos : Pos}
theorem pe_cm {pl : Sem Bool} (M : Cm X.prog X.w X.K X.mg X.base C k m ps sp) (c : Cls X.K C) (hr : Room k X.A) (he : PE X o ta) (ha : PA X (e :: es) t)
    (hst : starEach (e :: es) X.env = (false, eval e X.env) :: starEach es X.env := by rfl) (hpl : (backTo pos (starEach es X.env)).any (·.1) = false := by rfl)
    (ht : eval (.Call (.Attribute o m apos) (e :: es) [] pos) X.env = (do
      let ov ← eval o X.env
      standAt apos.atName
      let (f, first) ← holding [ov] (getMethod ov m pl)
      callWith pos f first (backTo pos (starEach (e :: es) X.env)) (backToKw pos (keywordEach [] X.env))) := by rfl) :
    PE X (.Call (.Attribute o m apos) (e :: es) [] pos) (tMeth C m sp [] E0 ta t) := by
  obtain ⟨f, fd, F, hm, b⟩ := M.has
  exact pe_meth he c hm F hr b .nil pass0 ha hst hpl ht
theorem op_notInM (M : Cm X.prog X.w X.K X.mg X.base C k "__contains__" ps sp) (hr : Room k X.A) : OpR X (compareOp .NotIn) (rNotInO C sp) := by
  obtain ⟨f, fd, F, hm, b⟩ := M.has
  exact op_notInO F hr hm.at_ hm.fn b
end

/-! ### t * 1 -/
theorem tuple_mul1 (l : Addr) (items : Array Value) (n : Nat) (dd : Option Addr) (sl : Array (Option Value)) (u : Tok) (hi : items.isEmpty = false) :
    Meets (Builtin.«tuple.__mul__» ⟨[.ref l, .int 1 u], []⟩) (fun _ R s => s.heap.get? l = some { cls := .type "tuple", dict := dd, data := .seq items n, slots := sl } ∧
      R (.ok (.ret (Value.ref l))) s) :=
  .of_wp fun prog w A R s h => by
    obtain ⟨hp, g, d, tk, os⟩ := s
    obtain ⟨hl, h⟩ := h
    have f1 := AutoSeq1.idx_int
    wp_walk using wpAny_loadPart' hl
    exact ⟨_, rfl, h⟩
/-- t * k, 1 ≤ k -/
def rRepA (K : PySem.W.Frag) : R2 := fun x y H Q => ∃ l k xs, x = .ref l ∧ y = .int k ∧ SqT K H l xs ∧ xs ≠ [] ∧ 1 ≤ k ∧ k ≤ 1000 ∧ xs.length ≤ 1000 ∧
  (k = 1 → Q (.ref l) H) ∧ (2 ≤ k → ∀ p, H p = none → Q (.ref p) (upd H p (.tup (List.replicate k.toNat xs).flatten)))
theorem op_repA {X : Cx} : OpR X (binaryOp .Mult) (rRepA X.K) := by
  intro pins s σ H x y v u Q I rx ry h
  obtain ⟨l, k, xs, ex, ey, hT, hne, h1, h2, hz, q1, q2⟩ := h
  by_cases hk : 2 ≤ k
  · exact op_repT pins s σ H x y v u Q I rx ry ⟨l, k, xs, ex, ey, hT, hne, hk, h2, hz, q2 hk⟩
  · have e1 : k = 1 := by omega
    subst ex ey e1
    cases rx
    obtain ⟨t, rfl⟩ := ry
    obtain ⟨its, r, ⟨⟨cls, dd, data, sl⟩, ho, hc, n, hd⟩, hs⟩ := I.tuple hT
    simp only at hc hd
    subst hc hd
    have hle : its.length = xs.length := r.length.symm
    have hn : its ≠ [] := fun e => hne (by
      rw [e] at hle
      exact List.eq_nil_of_length_eq_zero hle.symm)
    have hi : its.toArray.isEmpty = false := by
      cases its with
      | nil => exact absurd rfl hn
      | cons a b => rfl
    exact wpAny_binaryOp_repeat_ref (T := "tuple") (U := "int") (by decide) ⟨_, ho, rfl⟩ (fun s' => typeIs_int s' 1 t) noFill_tuple_mul F.fills_int_mul F.slot_int_rmul repeat_tuple F.slot_int_index.lookup
      (call_meets F.slot_int_rmul (typeIs_int s 1 t) F.entry_int_rmul (F.args_int_rmul_2 _ _) (int_rmul_tuple 1 t l its.toArray n dd sl)
        ⟨ho, rfl, ⟨_, ho, rfl⟩, call_meets F.slot_tuple_mul ⟨_, ho, rfl⟩ F.entry_tuple_mul (F.args_tuple_mul_2 _ _) (tuple_mul1 l its.toArray n dd sl t hi) ⟨ho, .ref l, H, I, rfl, q1 rfl⟩⟩)
end Ol

set_option Elab.async false
set_option linter.all false
set_option maxRecDepth 100000
set_option maxHeartbeats 4000000
namespace Ol
open PySem PySem.Spec PyProof.Rows L2

/-- a method that may raise, within a try -/
def tMethX (C : Addr) (m : Str) (sp : Sp) (E : L2.St → XK) (ta : TE) (t : TA) : TE := fun σ H Q => ta σ H fun x H1 => ∃ a dx fs, x = .ref a ∧ H1 a = some (.ins C dx fs) ∧ fs.lookup m = none ∧
  t σ H1 fun vs H2 => sp (x :: vs) H2 Q (E σ)
/-- a method that may raise, and its promise -/
structure CmX (P : Program) (w : World) (K : PySem.W.Frag) (mg : Str → Option Value) (base : Heap)
    (C : Addr) (k : Nat) (m : Str) (ps : List Str) (sp : Sp) : Prop where
  has : ∃ (f : Addr) (fd : FuncData), FnOk P w K mg base (L2.CX P w) k f fd ps sp ∧ Meth K C m f ∧ Binds K fd ps []
section
variable {X : Cx} {k : Nat} {C : Addr} {ps : List Str} {sp : Sp} {m : Str} {o e : Expr} {es : List Expr} {ta : TE} {t : TA} {apos pos : Pos} {E : L2.St → XK}
theorem pe_cmX {pl : Sem Bool} (M : CmX X.prog X.w X.K X.mg X.base C k m ps sp) (c : Cls X.K C) (hr : Room k X.A) (hx : ∀ σ, PassesAt (L2.CX X.prog X.w) X σ (E σ)) (he : PE X o ta) (ha : PA X (e :: es) t)
    (hst : starEach (e :: es) X.env = (false, eval e X.env) :: starEach es X.env := by rfl) (hpl : (backTo pos (starEach es X.env)).any (·.1) = false := by rfl)
    (ht : eval (.Call (.Attribute o m apos) (e :: es) [] pos) X.env = (do
      let ov ← eval o X.env
      standAt apos.atName
      let (f, first) ← holding [ov] (getMethod ov m pl)
      callWith pos f first (backTo pos (starEach (e :: es) X.env)) (backToKw pos (keywordEach [] X.env))) := by rfl) :
    PE X (.Call (.Attribute o m apos) (e :: es) [] pos) (tMethX C m sp E ta t) := by
  obtain ⟨f, fd, F, hm, b⟩ := M.has
  refine ⟨fun pins s σ H Q I h => ?_⟩
  refine PySem.W.methodCall_KW (pl := pl) (thn (he.run pins s σ H _ I h) fun u s1 ⟨x, H1, I1, rx, a, dx, fs, ex, ea, l, q⟩ => ?_) ht
  subst ex
  obtain rfl : u = Value.ref a := rx
  refine getmeth_ok I1 ea c hm l ?_
  refine PySem.W.callWith_K (first := [.ref a]) (h₀ := X.base) I.ok.mod.kin hm.kp (thn (ha.run pos pins s1 σ H1 _ I1 q) fun us s2 ⟨vs, H2, I2, r, q2⟩ => ⟨I2.kIn, ?_⟩) hst hpl
  exact run_fnS (us := .ref a :: us) (vs := .ref a :: vs) F hr b (hx σ) I2 (.cons rfl r) q2
end
end Ol

set_option Elab.async false
set_option linter.all false
set_option maxRecDepth 100000
set_option maxHeartbeats 4000000
namespace Ol
open PySem PySem.Spec PyProof.Rows L2 RZ

theorem walk_zipT {K : PySem.W.Frag} {a b : Addr} {xs ys : List V} {n : Nat} (hn : n = min xs.length ys.length) : Walk (ItzT K a b) n (fun H => SqT K H a xs ∧ SqT K H b ys) (YPair (fun i => xs[i]?) (fun i => ys[i]?)) := by
  subst hn
  refine ⟨fun i _ hi q => ?_, fun _ q => ⟨xs, ys, q.1, q.2, by omega⟩, fun i H v H' _ q y => ?_⟩
  · have h1 : i < xs.length := by omega
    have h2 : i < ys.length := by omega
    exact ⟨xs, ys, xs[i], ys[i], q.1, q.2, by simp [h1], by simp [h2]⟩
  · obtain ⟨T, x, z, h1, h2, h3, h4, h5⟩ := y
    exact ⟨T, x, z, h1, h2, h3, h4 xs q.1, h5 ys q.2⟩

theorem ext_del {H H' : Hp} {D : Addr} (e : Ext H H') : Ext (del H D) (del H' D) := fun b o z => by
  by_cases c : b = D
  · rw [c, del_same] at z; cases z
  · rw [del_ne c] at z ⊢
    exact e _ _ z
theorem del_ext {H : Hp} {D : Addr} : Ext (del H D) H := fun b o z => by
  by_cases c : b = D
  · rw [c, del_same] at z; cases z
  · rw [del_ne c] at z
    exact z
theorem ext_to {H H' : Hp} {D : Addr} (e : Ext H H') (h : H D = none) : Ext H (del H' D) := fun b o z => by
  rw [del_ne (fun c => by rw [c, h] at z; cases z)]
  exact e _ _ z
theorem del_upd {H : Hp} {D : Addr} {o : HO} : del (upd H D o) D = del H D := by
  funext b
  by_cases c : b = D
  · rw [c, del_same, del_same]
  · rw [del_ne c, del_ne c, upd_ne c]
theorem del_at {H : Hp} {D p : Addr} {o u : HO} (h : H p = none) (hD : H D = some u) {H' : Hp} (h' : H' p = some o) : del H' D p = some o := by
  rw [del_ne (fun c => by rw [c, hD] at h; cases h)]
  exact h'
/-- what the second clause is to do in turn i of the first one -/
def Inner (P : Nat → Nat → List V → Hp → Prop) (D : Addr) (H : Hp) (g1 : TG) (tt1 : TT) (te : TE) (vs1 : List Nat) (i : Nat) (σ2 : L2.St) (J1 : It) (H4 : Hp) : Prop :=
  Ext H H4 ∧ ∃ n1 G1 Y1, Walk J1 n1 G1 Y1 ∧
    (∀ Hz, Ext (del H4 D) Hz → G1 Hz) ∧
    (∀ ys Hz, P i n1 ys Hz → P (i + 1) 0 ys Hz) ∧
    ∀ j y Ha Hb ys, j < n1 → Ext (del H4 D) Ha → Ha D = some (.lst ys) → Y1 j Ha y Hb → P i j ys (del Ha D) →
      ∀ (QY : V → Hp → Prop) (QN : Hp → Prop),
        (∀ y H5, Ext Ha H5 → P i (j + 1) (ys ++ [y]) (del H5 D) → QY y H5) →
        (∀ H5, Ext Ha H5 → P i (j + 1) ys (del H5 D) → QN H5) →
        g1 y (wipe σ2 vs1) Hb fun σ3 H5 => wipe σ3 vs1 = wipe σ2 vs1 ∧ tt1 σ3 H5 fun b H6 => if b = true then te σ3 H6 QY else QN H6
/-- a comprehension of two clauses (a test in the second one alone): P holds of both turns, the list so far, and all that stands but the list -/
theorem lc2_acc {J : It} {n : Nat} {G : Hp → Prop} {Y : Nat → Hp → V → Hp → Prop} (w : Walk J n G Y) {g : TG} {wi1 : TI} {g1 : TG} {tt1 : TT} {te : TE} {vs vs1 : List Nat} {σ : L2.St} {H1 : Hp} {D : Addr} {Qd : Hp → Prop}
    (P : Nat → Nat → List V → Hp → Prop) (up : ∀ i j xs H H', Ext H H' → P i j xs H → P i j xs H') (h0 : P 0 0 [] H1) (hD : H1 D = none)
    (hlen : ∀ i j xs H, P i j xs H → xs.length < sizeLine) (hG : ∀ H, Ext H1 H → G H)
    (hs : ∀ i x H H' xs, i < n → Ext H1 H → H D = some (.lst xs) → Y i H x H' → P i 0 xs (del H D) →
      ∀ R : L2.St → It → Hp → Prop, (∀ σ2 J1 H4, Inner P D H g1 tt1 te vs1 i σ2 J1 H4 → R σ2 J1 H4) →
      g x (wipe σ vs) H' fun σ2 H2 => wipe σ2 vs = wipe σ vs ∧ wi1 σ2 H2 (R σ2))
    (hd : ∀ H xs, Ext H1 H → H D = some (.lst xs) → P n 0 xs H → Qd H) :
    ∃ W : Nat → Nat → Hp → Prop, (∃ m, W 0 m (upd H1 D (.lst []))) ∧ ∀ i m H, W i m H →
      (J.stop i H ∧ Qd H) ∨ (J.go i H ∧ ∃ Nx : Hp → Prop, (∀ H', Nx H' → ∃ m', m' < m ∧ W (i + 1) m' H') ∧ ∀ x H', J.yld i H x H' → g x (wipe σ vs) H' fun σ2 H2 => wipe σ2 vs = wipe σ vs ∧ tYes σ2 H2 fun b H3 =>
        if b = true then wi1 σ2 H3 fun J1 H4 => ∃ W1 : Nat → Nat → Hp → Prop, (∃ m, W1 0 m H4) ∧ ∀ j k H, W1 j k H →
          (J1.stop j H ∧ Nx H) ∨ (J1.go j H ∧ ∃ Nx1 : Hp → Prop, (∀ H', Nx1 H' → ∃ k', k' < k ∧ W1 (j + 1) k' H') ∧ ∀ x H', J1.yld j H x H' → g1 x (wipe σ2 vs1) H' fun σ3 H5 => wipe σ3 vs1 = wipe σ2 vs1 ∧ tt1 σ3 H5 fun b H6 =>
            if b = true then te σ3 H6 fun y H7 => ∃ acc, H7 D = some (.lst acc) ∧ acc.length < sizeLine ∧ Nx1 (upd H7 D (.lst (acc ++ [y]))) else Nx1 H6)
        else Nx H3) := by
  have e1 : Ext H1 (upd H1 D (.lst [])) := Ext.new hD
  let Pv : Nat → Hp → Prop := fun i H => ∃ xs, Ext H1 H ∧ H D = some (.lst xs) ∧ P i 0 xs (del H D)
  refine ⟨fun i m H => m = n - i ∧ i ≤ n ∧ Pv i H, ⟨n, by simp, Nat.zero_le _, [], e1, upd_same, up 0 0 [] _ _ (ext_to e1 hD) h0⟩, ?_⟩
  rintro i m H ⟨rfl, hi, xs, e, hx, hp⟩
  have q := hG H e
  by_cases hlt : i < n
  · refine .inr ⟨w.goes i H hlt q, Pv (i + 1), fun H' p' => ⟨n - (i + 1), by omega, rfl, hlt, p'⟩, fun x H' y => ?_⟩
    refine hs i x H H' xs hlt e hx (w.yields i H x H' hlt q y) hp (fun σ2 J1 H4 => ∃ W1 : Nat → Nat → Hp → Prop, (∃ m, W1 0 m H4) ∧ ∀ j k H, W1 j k H →
          (J1.stop j H ∧ Pv (i + 1) H) ∨ (J1.go j H ∧ ∃ Nx1 : Hp → Prop, (∀ H', Nx1 H' → ∃ k', k' < k ∧ W1 (j + 1) k' H') ∧ ∀ x H', J1.yld j H x H' → g1 x (wipe σ2 vs1) H' fun σ3 H5 => wipe σ3 vs1 = wipe σ2 vs1 ∧ tt1 σ3 H5 fun b H6 =>
            if b = true then te σ3 H6 fun y H7 => ∃ acc, H7 D = some (.lst acc) ∧ acc.length < sizeLine ∧ Nx1 (upd H7 D (.lst (acc ++ [y]))) else Nx1 H6)) ?_
    rintro σ2 J1 H4 ⟨e4, n1, G1, Y1, w1, hG1, hend, hst⟩
    have e14 : Ext H1 (del H4 D) := ext_to (e.trans e4) hD
    let Pj : Nat → Hp → Prop := fun j Ha => ∃ ys, Ext (del H4 D) (del Ha D) ∧ Ha D = some (.lst ys) ∧ P i j ys (del Ha D)
    refine ⟨fun j k Ha => k = n1 - j ∧ j ≤ n1 ∧ Pj j Ha, ⟨n1, by simp, Nat.zero_le _, xs, Ext.refl _, e4 _ _ hx, up _ _ _ _ _ (ext_del e4) hp⟩, ?_⟩
    rintro j k Ha ⟨rfl, hj, ys, ea, hy, hpj⟩
    have ea2 : Ext (del H4 D) Ha := ea.trans del_ext
    have q1 := hG1 Ha ea2
    by_cases hl1 : j < n1
    · refine .inr ⟨w1.goes j Ha hl1 q1, Pj (j + 1), fun H' p' => ⟨n1 - (j + 1), by omega, rfl, hl1, p'⟩, fun x1 Hb y1 => ?_⟩
      refine hst j x1 Ha Hb ys hl1 ea2 hy (w1.yields j Ha x1 Hb hl1 q1 y1) hpj _ _ ?_ ?_
      · intro v H5 e5 k
        exact ⟨ys, e5 _ _ hy, hlen _ _ _ _ hpj, ys ++ [v], by rw [del_upd]; exact ea.trans (ext_del e5), upd_same, by rw [del_upd]; exact k⟩
      · intro H5 e5 k
        exact ⟨ys, ea.trans (ext_del e5), e5 _ _ hy, k⟩
    · have ej : j = n1 := by omega
      subst ej
      exact .inl ⟨w1.stops Ha q1, ys, e14.trans ea2, hy, hend _ _ hpj⟩
  · have ei : i = n := by omega
    subst ei
    exact .inl ⟨w.stops H q, hd H xs e hx (up _ _ _ _ _ del_ext hp)⟩
/-- of one clause, in the same words -/
theorem lc1_acc {J : It} {n : Nat} {G : Hp → Prop} {Y : Nat → Hp → V → Hp → Prop} (w : Walk J n G Y) {g : TG} {tt : TT} {te : TE} {vs : List Nat} {σ : L2.St} {H1 : Hp} {D : Addr} {Qd : Hp → Prop}
    (P : Nat → List V → Hp → Prop) (up : ∀ i xs H H', Ext H H' → P i xs H → P i xs H') (h0 : P 0 [] H1) (hD : H1 D = none)
    (hlen : ∀ i xs H, P i xs H → xs.length < sizeLine) (hG : ∀ H, Ext H1 H → G H)
    (hs : ∀ i x H H' xs, i < n → Ext H1 H → H D = some (.lst xs) → Y i H x H' → P i xs (del H D) →
      ∀ (QY : V → Hp → Prop) (QN : Hp → Prop),
        (∀ y H4, Ext H H4 → P (i + 1) (xs ++ [y]) (del H4 D) → QY y H4) →
        (∀ H4, Ext H H4 → P (i + 1) xs (del H4 D) → QN H4) →
        g x (wipe σ vs) H' fun σ2 H2 => wipe σ2 vs = wipe σ vs ∧ tt σ2 H2 fun b H3 => if b = true then te σ2 H3 QY else QN H3)
    (hd : ∀ H xs, Ext H1 H → H D = some (.lst xs) → P n xs H → Qd H) :
    ∃ W : Nat → Nat → Hp → Prop, (∃ m, W 0 m (upd H1 D (.lst []))) ∧ ∀ i m H, W i m H →
      (J.stop i H ∧ Qd H) ∨ (J.go i H ∧ ∃ Nx : Hp → Prop, (∀ H', Nx H' → ∃ m', m' < m ∧ W (i + 1) m' H') ∧ ∀ x H', J.yld i H x H' → g x (wipe σ vs) H' fun σ2 H2 => wipe σ2 vs = wipe σ vs ∧ tt σ2 H2 fun b H3 =>
        if b = true then te σ2 H3 fun y H4 => ∃ acc, H4 D = some (.lst acc) ∧ acc.length < sizeLine ∧ Nx (upd H4 D (.lst (acc ++ [y]))) else Nx H3) := by
  have e1 : Ext H1 (upd H1 D (.lst [])) := Ext.new hD
  refine lc_it w (fun i H => ∃ xs, Ext H1 H ∧ H D = some (.lst xs) ∧ P i xs (del H D)) ⟨[], e1, upd_same, up 0 [] _ _ (ext_to e1 hD) h0⟩ (by rintro i H _ ⟨xs, e, _⟩; exact hG H e) ?_ ?_
  · rintro i x H H' hi ⟨xs, e, hx, hp⟩ y
    refine hs i x H H' xs hi e hx y hp _ _ ?_ ?_
    · intro v H4 e4 k
      exact ⟨xs, e4 _ _ hx, hlen _ _ _ hp, xs ++ [v], Ext.mut (e.trans e4) hD, upd_same, by rw [del_upd]; exact k⟩
    · intro H4 e4 k
      exact ⟨xs, e.trans e4, e4 _ _ hx, k⟩
  · rintro H ⟨xs, e, hx, hp⟩
    exact hd H xs e hx (up _ _ _ _ del_ext hp)
end Ol

set_option Elab.async false
set_option linter.all false
set_option maxRecDepth 100000
set_option maxHeartbeats 4000000
namespace Ol
open PySem PySem.Spec PyProof.Rows L2

theorem lt_anti : ∀ a b : List Nat, ltCps a b = false → ltCps b a = false → a = b
  | [], [], _, _ => rfl
  | [], _ :: _, h, _ => by cases h
  | _ :: _, [], _, h => by cases h
  | a :: r, b :: t, h1, h2 => by
    unfold ltCps at h1 h2
    simp only [Bool.or_eq_false_iff, decide_eq_false_iff_not, Bool.and_eq_false_iff, beq_eq_false_iff_ne] at h1 h2
    have e : a = b := by omega
    subst e
    have r1 : ltCps r t = false := h1.2.resolve_left (fun z => z rfl)
    have r2 : ltCps t r = false := h2.2.resolve_left (fun z => z rfl)
    rw [lt_anti r t r1 r2]
theorem lt_trans : ∀ x y z : List Nat, ltCps y x = false → ltCps z y = false → ltCps z x = false
  | [], _, [], _, _ => rfl
  | [], _, _ :: _, _, _ => rfl
  | _ :: _, [], _, h, _ => by cases h
  | _ :: _, _ :: _, [], _, h => by cases h
  | c :: r, b :: t, d :: u, h1, h2 => by
    unfold ltCps at h1 h2 ⊢
    simp only [Bool.or_eq_false_iff, decide_eq_false_iff_not, Bool.and_eq_false_iff, beq_eq_false_iff_ne] at h1 h2 ⊢
    refine ⟨by omega, ?_⟩
    by_cases e : d = c
    · right
      have e1 : b = c := by omega
      have e2 : d = b := by omega
      exact lt_trans r t u (h1.2.resolve_left (fun z => z e1)) (h2.2.resolve_left (fun z => z e2))
    · exact .inl e
theorem rising_pw : ∀ (p : Str) (l : List Str), risingS p l = true → (p :: l).Pairwise (fun a b => ltCps b.cps.toList a.cps.toList = false)
  | p, [], _ => by simp
  | p, x :: r, h => by
    unfold risingS at h
    rw [Bool.and_eq_true, Bool.not_eq_true'] at h
    have ih := rising_pw x r h.2
    refine List.pairwise_cons.mpr ⟨fun y hy => ?_, ih⟩
    rcases List.mem_cons.mp hy with rfl | hy
    · exact h.1
    · exact lt_trans _ _ _ h.1 (List.rel_of_pairwise_cons ih hy)
theorem sorted_pw : ∀ l : List Str, sortedS l = true → l.Pairwise (fun a b => ltCps b.cps.toList a.cps.toList = false)
  | [], _ => .nil
  | x :: r, h => rising_pw x r h
theorem sorted_one {xs ys : List Str} (h1 : sortedS xs = true) (h2 : sortedS ys = true) (hp : xs.Perm ys) : xs = ys :=
  List.Perm.eq_of_pairwise (fun a b _ _ q1 q2 => by
    have e : a.cps.toList = b.cps.toList := lt_anti _ _ q2 q1
    cases a with | mk a => cases b with | mk b => have e2 : a = b := Array.toList_inj.mp e; rw [e2]) (sorted_pw _ h1) (sorted_pw _ h2) hp

/-! ### data without dicts -/
mutual
inductive Nd : PyData → Prop
  | non : Nd .none
  | bl (b : Bool) : Nd (.bool b)
  | int (i : Int) : Nd (.int i)
  | str (x : Str) : Nd (.str x)
  | lst {ds : List PyData} : NdAll ds → Nd (.list ds)
  | tup {ds : List PyData} : NdAll ds → Nd (.tuple ds)
inductive NdAll : List PyData → Prop
  | nil : NdAll []
  | cons {d : PyData} {ds : List PyData} : Nd d → NdAll ds → NdAll (d :: ds)
end
theorem NdAll.of : ∀ {ds : List PyData}, (∀ d ∈ ds, Nd d) → NdAll ds
  | [], _ => .nil
  | d :: ds, h => .cons (h d List.mem_cons_self) (NdAll.of fun e he => h e (List.mem_cons_of_mem _ he))
mutual
theorem Dq.off {H : Hp} {p : Addr} {kv : List (Key × V)} (hp : H p = some (.dK kv)) : ∀ {v : V} {d : PyData}, Dq H v d → Nd d → Dq (del H p) v d
  | _, _, .non, _ => .non
  | _, _, .bl b, _ => .bl b
  | _, _, .int i, _ => .int i
  | _, _, .str x, _ => .str x
  | _, _, .lst h t, n => .lst (by rw [del_ne (fun z => by rw [z, hp] at h; cases h)]; exact h) (DqAll.off hp t (by cases n; assumption))
  | _, _, .tup h t, n => .tup (by rw [del_ne (fun z => by rw [z, hp] at h; cases h)]; exact h) (DqAll.off hp t (by cases n; assumption))
  | _, _, .dct h t, n => by cases n
theorem DqAll.off {H : Hp} {p : Addr} {kv : List (Key × V)} (hp : H p = some (.dK kv)) : ∀ {vs : List V} {ds : List PyData}, DqAll H vs ds → NdAll ds → DqAll (del H p) vs ds
  | _, _, .nil, _ => .nil
  | _, _, .cons h t, n => .cons (Dq.off hp h (by cases n; assumption)) (DqAll.off hp t (by cases n; assumption))
end
end Ol

set_option Elab.async false
set_option linter.all false
set_option maxRecDepth 100000
set_option maxHeartbeats 4000000
namespace Ol
open PySem PySem.Spec PyProof.Rows L2
/-- data not in a list of data -/
def rNotInQ : R2 := fun x y H Q => ∃ d ds, Sys H ∧ Dq H x d ∧ Dq H y (.list ds) ∧ SeqAt.shaped d = true ∧ SeqAt.shaped (.list ds) = true ∧ Q (.bl (!ds.any fun z => PyData.eqv z d)) H
theorem op_notInQ {X : Cx} (hu : X.A.units + 65 < cLine) : OpR X (compareOp .NotIn) rNotInQ := by
  intro pins s σ H x y v u Q I rx ry h
  obtain ⟨d, ds, S, hd, he, sd, se, q⟩ := h
  obtain ⟨as, r1, _⟩ := Dq.reads I S hd rx
  obtain ⟨bs, r2, _⟩ := Dq.reads I S he ry
  exact SeqAt.notIn_list_reads r2 r1 (SeqAt.canLay_of_shaped se) (SeqAt.canLay_of_shaped sd) (room_in_shaped sd hu) ⟨.bl _, H, I, rfl, q⟩
end Ol

set_option Elab.async false
set_option linter.all false
set_option maxRecDepth 100000
set_option maxHeartbeats 4000000
namespace Ol
open PySem PySem.Spec PyProof.Rows L2
/-- a class catches its own errors -/
theorem exm_same {K : PySem.W.Frag} {S : Addr} (q1 : PySem.W.subIn K (.ref S) (.type "BaseException") = some true) (q2 : PySem.W.isClsIn K S = true)
    (q3 : PySem.W.typeIn K (.ref S) = some (.type "type")) (q4 : PySem.W.subIn K (.ref S) (.ref S) = some true) : PySem.W.exmOne K (.ref S) (.ref S) = some true := by
  have q5 : (PySem.W.clsIn K S).isSome = true := q2
  unfold PySem.W.exmOne
  simp [PySem.W.kitCls, q1, q3, q4, q5]
end Ol

set_option Elab.async false
set_option linter.all false
set_option maxRecDepth 100000
set_option maxHeartbeats 4000000
namespace Ol
open PySem PySem.Spec PyProof.Rows L2
/-- isinstance(e, c): e the error with fields that the suite holds, c a class of the program -/
def rIsX (K : PySem.W.Frag) (a : Addr) (cls : Value) (d : Option Addr) : List V → Hp → VK → Prop := fun xs H Q => ∃ (D c dd : Addr) (fs : List (Str × V)) (b : Bool), xs = [.ref a, .ref c] ∧ cls = .ref D ∧ ExcC K D ∧ d = some dd ∧ H dd = some (.xd fs) ∧
  PySem.W.kitOne K (.ref D) (.ref c) = some b ∧ Q (.bl b) H
theorem call_isX {X : Cx} {a : Addr} {cls : Value} {d : Option Addr} {oe : Obj} {pn : List (Addr × Obj)} (hz : Zc cls d oe) (hf : ∃ vs, oe.data = .fields vs) : CallR (X.suite a ((a, oe) :: pn)) (.builtin "isinstance") (rIsX X.K a cls d) := by
  intro pins s σ H xs us Q I r h
  obtain ⟨D, c, dd, fs, b, rfl, rfl, T, rfl, hdd, e, q⟩ := h
  cases r with
  | cons rx rr =>
    cases rr with
    | cons rt rr =>
      cases rr
      cases rx
      cases rt
      obtain ⟨hget, _⟩ := I.pin (a, oe) (List.mem_append.mpr (.inl List.mem_cons_self))
      obtain ⟨vs, hd⟩ := hf
      have hx : ObjOk X.prog X.w H s.heap dd (.xd fs) := I.hok dd _ hdd
      obtain ⟨mA, hns, hr⟩ := hx
      obtain ⟨od, ho, hl⟩ := lookIn_ns hns
      have J : PySem.W.InstAt s.heap a oe D (some od) := ⟨hget, hz.1, by unfold PySem.W.notCls; rw [hd] <;> rfl, by rw [hz.2]; exact ho⟩
      obtain ⟨cd, hcd, _⟩ := PySem.W.any_some T.hd
      exact PySem.W.kia_one (PySem.W.kitx_exc (by rw [hcd]; rfl) T.hg T.hk T.hs T.ha T.hn T.ht T.hm) I.kIn J e (fun z => nomatch z) fun tk => ⟨.bl b, H, I.kept (t' := tk) fun _ _ z => z, rfl, q⟩
end Ol

set_option Elab.async false
set_option linter.all false
set_option maxRecDepth 100000
set_option maxHeartbeats 4000000
namespace Ol
open PySem PySem.Spec PyProof.Rows L2
section
open PySem.W
variable {prog : Program} {w : World} {A : Around} {E : Value → Shared → Prop} {s : Shared} {K : PySem.W.Frag} {x C L f : Addr} {h₀ : Heap} {m : Str → Option Value} {ox : Obj} {od : Option Obj} {b tb : Value}
/-- a builtin that the class has under this name, asked of its instance -/
theorem bound_builtin {M : Model} {id : String} {name : Str} {args : List Value} {Q : Option Value → Shared → Prop} (known : K.In s.heap) (inst : InstAt s.heap x ox C od) (has : findIn K (.ref C) name = some (some (.builtin id)))
    (bnd : ∀ self, bindSpecial (.builtin id) self = pure (.builtin id, [self])) (asked : wpAny M A (call (.builtin id) (.ref x :: args)) (fun v => Q (some v)) E s) : wpAny M A (callSpecialIfBound? (.ref x) name args) Q E s := by
  have after : wpAny M A (call (.builtin id) ([.ref x] ++ args) >>= fun v => pure (some v)) Q E s :=
    wpAny_bind (wpAny_mono asked (fun v s2 ok => wpAny_pure ok) fun _ _ bad => bad)
  unfold callSpecialIfBound? bindSpecialIfBound?
  apply wpAny_holding
  apply wpAny_bind; apply wpAny_bind
  unfold specialOf
  apply wpAny_bind
  apply inst.type.here
  apply (looks_findIn known has).here
  simp only [bnd]
  apply wpAny_bind
  apply wpAny_askSetting
  apply wpAny_ite
  split
  case isTrue => exact wpAny_bind <| wpAny_pure <| wpAny_pure after
  case isFalse => exact wpAny_tryCatch <| wpAny_bind <| wpAny_pure <| wpAny_pure after
/-- x != y by the default, the class having its own __eq__ -/
theorem ne_own {Q : Value → Shared → Prop} (room : A.units + 1 < cLine) (fr : Fr h₀ L s.heap m) (kn : K.In h₀) (inst : InstAt s.heap x ox C od) (kind : Looks (model prog w) s.heap (typeOf b) tb) (nf : notFirst K C tb = true)
    (own : findIn K (.ref C) "__eq__" = some (some (.ref f))) (fn : isFn K (.ref f) = true) (dflt : findIn K (.ref C) "__ne__" = some (some (.builtin "object.__ne__"))) (top : subIn K (.ref C) (.type "object") = some true)
    (told : wpAny (model prog w) A.in1 (call (.ref f) [.ref x, b]) (fun v s' => ∃ r, v = .bool r ∧ Q (.bool (!r)) s') E s) : wpAny (model prog w) A (richCompare .NotEq (.ref x) b) Q E s := by
  have known := kn.keeps fr.keep
  have deep : A.in1.units < cLine := room
  have tried : wpAny (model prog w) A (tryCompare (.ref x) (cmpInfo .NotEq).2.1 b) (fun got s' => ∃ v, got = some v ∧ Q v s') E s := by
    unfold tryCompare
    apply wpAny_bind
    apply bound_builtin (name := (cmpInfo .NotEq).2.1) known inst dflt PySem.F.cmp_object.ne.bind
    apply wpAny_call
    apply codeAny_call_builtin PySem.F.cmp_object.ne.plain PySem.F.cmpEntry_ne
    apply check_slot PySem.F.cmpKind_ne PySem.F.cmpSplit_ne (inst.type.andThen (looks_subIn known top)) (PySem.F.cmpArgs_ne _ _)
    unfold Builtin.«object.__ne__»
    repeat (first
      | with_reducible refine wpAny_cRoomFor deep ?_
      | (refine wpAny_bind (m := callSpecialIfBound? (.ref x) (Str.ofString "__eq__") [b]) (ifBound_K known inst own fn (wpAny_mono told (fun got s2 yes => ?_) fun _ _ bad => bad)))
      | wp_step)
    obtain ⟨r, rfl, fin⟩ := yes
    repeat (first | exact wpAny_pure ⟨_, rfl, fin⟩ | exact wpAny_truthy_bool fin | (refine wpAny_bind (m := truthy (.bool _)) (wpAny_truthy_bool ?_)) | wp_step)
  unfold richCompare
  simp only [oneThing_ref]
  apply wpAny_holding
  apply wpAny_bind; apply wpAny_cRoomFor (Nat.lt_of_succ_lt room)
  apply wpAny_bind; apply inst.type.here
  apply wpAny_bind; apply kind.here
  have last : ∀ {α : Type} {k : Option Value → Sem α} {Z : α → Shared → Prop}, (∀ v s2, Q v s2 → wpAny (model prog w) A (k (some v)) Z E s2) → wpAny (model prog w) A (tryCompare (.ref x) (cmpInfo .NotEq).2.1 b >>= k) Z E s := fun go =>
    wpAny_bind (wpAny_mono tried (fun got s2 ⟨v, eg, fin⟩ => eg ▸ go v s2 fin) fun _ _ bad => bad)
  by_cases same : (Value.ref C != tb) = true
  · have no : subIn K tb (.ref C) = some false := by
      unfold notFirst at nf
      rw [Bool.or_eq_true, beq_iff_eq, beq_iff_eq] at nf
      rcases nf with z | z
      · rw [z] at same
        simp at same
      · exact z
    rw [if_pos same]
    apply wpAny_bind
    apply (looks_subIn known no).here
    rw [if_neg (by decide)]
    exact last fun v s2 fin => wpAny_pure fin
  · rw [if_neg same]
    apply wpAny_bind
    apply wpAny_pure
    rw [if_neg (by decide)]
    exact last fun v s2 fin => wpAny_pure fin
end
/-! ### x == y, x != y, len(x): x an instance of a class with its own __eq__, __len__ -/
/-- the class has no != of its own -/
structure NeC (K : PySem.W.Frag) (C : Addr) : Prop where
  ne : PySem.W.findIn K (.ref C) "__ne__" = some (some (.builtin "object.__ne__"))
  ob : PySem.W.subIn K (.ref C) (.type "object") = some true
def rEqO (K : PySem.W.Frag) (C : Addr) (g : Bool → Bool) (sp : Sp) : R2 := fun x y H Q => ∃ (a dx : Addr) (fs : List (Str × V)) (t : Value), x = .ref a ∧ H a = some (.ins C dx fs) ∧ TyX K H y t ∧ PySem.W.notFirst K C t = true ∧
  sp [.ref a, y] H (fun v H' => ∃ r, v = .bl r ∧ Q (.bl (g r)) H') E0
def rLenO (C : Addr) (sp : Sp) : List V → Hp → VK → Prop := fun vs H Q => ∃ (a dx : Addr) (fs : List (Str × V)), vs = [.ref a] ∧ H a = some (.ins C dx fs) ∧ sp [.ref a] H (fun v H' => ∃ n : Int, v = .int n ∧ 0 ≤ n ∧ n < 2 ^ 63 ∧ Q (.int n) H') E0
section
variable {X : Cx} {k : Nat} {C f : Addr} {fd : FuncData} {ps : List Str} {sp : Sp}
/-- a def called one level deeper -/
theorem run_deep {pins : List (Addr × Obj)} {σ : L2.St} {H : Hp} {s : Shared} {Q : VK} {us : List Value} {vs : List V} {Z : Value → Shared → Prop} (F : FnOk X.prog X.w X.K X.mg X.base CX0 k f fd ps sp) (hr : Room (k + 1) X.A) (hb : Binds X.K fd ps [])
    (I : Inv X pins σ H s) (r : Vals vs us) (h : sp vs H Q E0) (z : ∀ v s', EP X pins σ Q v s' → Z v s') : wpAny (model X.prog X.w) X.A.in1 (call (.ref f) us) Z X.xe s := by
  have many : us.length = ps.length := r.length.symm.trans (F.len _ _ _ _ h)
  refine wpAny_call (codeAny_mono (F.run X.A.in1 X.stack s H ⟨us, []⟩ us vs Q E0 hr.in1 I.env0.in1 (by
    have := hb s us I.kIn (by simpa using many)
    simpa using this) r h) fun r s' hq => ?_)
  cases r with
  | error e => exact pass0 pins σ H s e s' I hq
  | ok fl =>
    cases fl with
    | ret u => exact z u s' (I.after hq)
    | next => exact False.elim hq
    | brk => exact False.elim hq
    | cont => exact False.elim hq
theorem op_eqO (M : Cm X.prog X.w X.K X.mg X.base C k "__eq__" ps sp) (hr : Room k X.A) : OpR X (compareOp .Eq) (rEqO X.K C id sp) := by
  obtain ⟨f, fd, F, hm, b⟩ := M.has
  intro pins s σ H x y v u Q I rx ry h
  obtain ⟨a, dx, fs, t, rfl, ho, ty, nf, h⟩ := h
  cases (show v = Value.ref a from rx)
  obtain ⟨mA, O, _⟩ := ins_get I.hok ho
  obtain ⟨od, J, _⟩ := O.look
  obtain ⟨m, fr⟩ := I.fr
  obtain ⟨PP, Z, pz, _⟩ := kit_of I ry ty
  refine PySem.W.cmp_ofEq (PySem.W.cmp_K (op := .Eq) (tb := t) hr.units0 fr I.ok.mod.kin J (Z.ty _ _ I.kIn pz) nf hm.at_ hm.fn ?_)
  refine wpAny_mono (run_fn (us := [.ref a, u]) (vs := [.ref a, y]) (E := E0) F hr b .nil pass0 I (.cons rfl (.cons ry .nil)) h) ?_ (fun _ _ z => z)
  rintro r s' ⟨w, H', I', rw', b', rfl, q⟩
  cases (show r = Value.bool b' from rw')
  exact ⟨.bl b', H', I', rfl, q⟩
theorem op_neO (M : Cm X.prog X.w X.K X.mg X.base C k "__eq__" ps sp) (N : NeC X.K C) (hr : Room (k + 1) X.A) : OpR X (compareOp .NotEq) (rEqO X.K C not sp) := by
  obtain ⟨f, fd, F, hm, b⟩ := M.has
  intro pins s σ H x y v u Q I rx ry h
  obtain ⟨a, dx, fs, t, rfl, ho, ty, nf, h⟩ := h
  cases (show v = Value.ref a from rx)
  obtain ⟨mA, O, _⟩ := ins_get I.hok ho
  obtain ⟨od, J, _⟩ := O.look
  obtain ⟨m, fr⟩ := I.fr
  obtain ⟨PP, Z, pz, _⟩ := kit_of I ry ty
  refine PySem.W.cmp_ofNotEq (ne_own (tb := t) (by have := hr.un; omega) fr I.ok.mod.kin J (Z.ty _ _ I.kIn pz) nf hm.at_ hm.fn N.ne N.ob ?_)
  refine run_deep (us := [.ref a, u]) (vs := [.ref a, y]) F hr b I (.cons rfl (.cons ry .nil)) h fun v s' z => ?_
  obtain ⟨w, H', I', rw', b', rfl, q⟩ := z
  cases (show v = Value.bool b' from rw')
  exact ⟨b', rfl, .bl (!b'), H', I', rfl, q⟩
theorem call_lenO (M : Cm X.prog X.w X.K X.mg X.base C k "__len__" ps sp) (hr : Room (k + 1) X.A) : CallR X (.builtin "len") (rLenO C sp) := by
  obtain ⟨f, fd, F, hm, b⟩ := M.has
  intro pins s σ H xs us Q I r h
  obtain ⟨a, dx, fs, rfl, ho, h⟩ := h
  obtain ⟨u, rfl, ru⟩ := vals1 r
  cases (show u = Value.ref a from ru)
  obtain ⟨mA, O, _⟩ := ins_get I.hok ho
  obtain ⟨od, J, _⟩ := O.look
  obtain ⟨m, fr⟩ := I.fr
  refine PySem.W.len_K fr I.ok.mod.kin J hm.at_ hm.fn ?_
  refine run_deep (us := [.ref a]) (vs := [.ref a]) F hr b I (.cons rfl .nil) h fun v s' z => ?_
  obtain ⟨w, H', I', rw', n, rfl, n0, n1, q⟩ := z
  obtain ⟨t, rfl⟩ := (show ∃ t, v = Value.int n t from rw')
  exact ⟨⟨n0, n1⟩, .int n, H', I'.tok _, ⟨_, rfl⟩, q⟩
end
end Ol

set_option Elab.async false
set_option linter.all false
set_option maxRecDepth 100000
set_option maxHeartbeats 8000000
namespace Ol
open PySem PySem.Spec PyProof.Rows L2
/-! ### {k: v for t0 in i0 if .. for t1 in i1 if ..} -/
abbrev DC2 (kx vx t0 i0 : Expr) (f0 : List Expr) (t1 i1 : Expr) (f1 : List Expr) (scope : Scope) (pos : Pos) : Expr := .DictComp kx vx [⟨t0, i0, f0, 0⟩, ⟨t1, i1, f1, 0⟩] scope pos
/-- a clause's tests, one after the other -/
abbrev Asks (fs : List Expr) (env : Env) : Sem Bool := forIn fs true fun c r => if r = true then do let ok ← isTrue c env (eval c env); pure (ForInStep.yield ok) else pure (ForInStep.yield r)
section
variable {kx vx t0 i0 t1 i1 : Expr} {f0 f1 : List Expr} {scope : Scope} {pos : Pos} {env : Env}
theorem first_turn (it : Value) (D : Addr) : compTurn (DC2 kx vx t0 i0 f0 t1 i1 f1 scope pos) 0 it (.ref D) env = (do
    standAt i0.pos
    match ← pyNext it with
    | none => pure (.done .next)
    | some v =>
      letOwnedTupleGo t0 it v
      assign t0 env v
      let mut ok := true
      for c in f0 do
        if ok then ok ← isTrue c env (eval c env)
      if ok then
        let x ← eval i1 env
        standAt i1.pos
        let x ← foldedSetIterable i1 env x
        let _ ← runOwn (.compStart (DC2 kx vx t0 i0 f0 t1 i1 f1 scope pos) 1 (← holding [x] (pyIter x)) (.ref D) env) env
      again (.compLoop (DC2 kx vx t0 i0 f0 t1 i1 f1 scope pos) 0 it (.ref D) env)) := by rfl
theorem second_turn (it : Value) (D : Addr) : compTurn (DC2 kx vx t0 i0 f0 t1 i1 f1 scope pos) 1 it (.ref D) env = (do
    standAt i1.pos
    match ← pyNext it with
    | none => pure (.done .next)
    | some v =>
      letOwnedTupleGo t1 it v
      assign t1 env v
      let mut ok := true
      for c in f1 do
        if ok then ok ← isTrue c env (eval c env)
      if ok then
        (do
          let kv ← eval kx env
          let vv ← holding [kv] (eval vx env)
          standAt { kx.pos with endLine := vx.pos.endLine, endCol := vx.pos.endCol }
          holding [kv, vv] (dictSet D kv vv))
      again (.compLoop (DC2 kx vx t0 i0 f0 t1 i1 f1 scope pos) 1 it (.ref D) env)) := by rfl
variable {prog : Program} {w : World} {A : Around} {R : Result → Shared → Prop} {s : Shared} {it : Value} {D : Addr}
/-- where an error of the block goes -/
abbrev Bad (prog : Program) (w : World) (A : Around) (env : Env) (R : Result → Shared → Prop) : Value → Shared → Prop := notedBy (model prog w) A env fun e s2 => R (.error e) s2
theorem first_loop (plain : ∀ x, foldedSetIterable i1 env x = pure x) (St : Nat → Shared → Prop)
    (turn : ∀ n s, St n s → wpAny (model prog w) A (pyNext it) (fun got s1 => match got with
      | none => R (.ok .next) s1
      | some v => wpAny (model prog w) A (letOwnedTupleGo t0 it v) (fun _ s2 => wpAny (model prog w) A (assign t0 env v) (fun _ s3 =>
          wpAny (model prog w) A (Asks f0 env) (fun ok s4 =>
            if ok = true then
              wpAny (model prog w) A (eval i1 env) (fun x s5 => wpAny (model prog w) A (pyIter x) (fun it1 s6 =>
                codeAny (model prog w) A (.compStart (DC2 kx vx t0 i0 f0 t1 i1 f1 scope pos) 1 it1 (.ref D) env) (fun r s7 => match r with
                  | .ok _ => ∃ m, m < n ∧ St m s7
                  | .error _ => False) s6) (Bad prog w A env R) s5) (Bad prog w A env R) s4
            else ∃ m, m < n ∧ St m s4) (Bad prog w A env R) s3) (Bad prog w A env R) s2) (Bad prog w A env R) s1) (Bad prog w A env R) s)
    (n : Nat) (start : St n s) : codeAny (model prog w) A (.compLoop (DC2 kx vx t0 i0 f0 t1 i1 f1 scope pos) 0 it (.ref D) env) R s := by
  refine codeAny_loop rfl St ?_ n start
  intro n s now
  show wpAny _ A ((compTurn (DC2 kx vx t0 i0 f0 t1 i1 f1 scope pos) 0 it (.ref D) env).onRaise (fun x => do noteFrame x env; theTreesLotGoes x)) _ _ s
  apply wpAny_noted
  rw [first_turn]
  apply wpAny_bind; apply wpAny_standAt; apply wpAny_bind
  apply wpAny_mono (turn n s now) _ (fun _ _ z => z)
  intro got s1 q1
  cases got with
  | none => exact wpAny_pure q1
  | some v =>
    apply wpAny_bind; apply wpAny_mono q1 _ (fun _ _ z => z); intro _ s2 q2
    apply wpAny_bind; apply wpAny_mono q2 _ (fun _ _ z => z); intro _ s3 q3
    apply wpAny_bind; apply wpAny_mono q3 _ (fun _ _ z => z); intro ok s4 q4
    cases ok with
    | false => exact wpAny_pure ⟨rfl, q4⟩
    | true =>
      apply wpAny_bind; apply wpAny_mono q4 _ (fun _ _ z => z); intro x s5 q5
      apply wpAny_bind; apply wpAny_standAt; apply wpAny_bind; apply wpAny_of_eq (plain x)
      apply wpAny_bind; apply wpAny_holding; apply wpAny_mono q5 _ (fun _ _ z => z); intro it1 s6 q6
      refine wpAny_bind (wpAny_runOwn ?_)
      rw [Around.mark_none]
      apply codeAny_mono q6
      intro r s7 q7
      cases r with
      | error e => exact q7.elim
      | ok f => first | exact wpAny_pure ⟨rfl, q7⟩ | exact wpAny_bind (wpAny_pure (wpAny_pure ⟨rfl, q7⟩))
theorem second_loop (St : Nat → Shared → Prop)
    (turn : ∀ n s, St n s → wpAny (model prog w) A (pyNext it) (fun got s1 => match got with
      | none => R (.ok .next) s1
      | some v => wpAny (model prog w) A (letOwnedTupleGo t1 it v) (fun _ s2 => wpAny (model prog w) A (assign t1 env v) (fun _ s3 =>
          wpAny (model prog w) A (Asks f1 env) (fun ok s4 =>
            if ok = true then
              wpAny (model prog w) A (eval kx env) (fun kv s5 => wpAny (model prog w) A (eval vx env) (fun vv s6 =>
                wpAny (model prog w) A (dictSet D kv vv) (fun _ s7 => ∃ m, m < n ∧ St m s7) (Bad prog w A env R) s6) (Bad prog w A env R) s5) (Bad prog w A env R) s4
            else ∃ m, m < n ∧ St m s4) (Bad prog w A env R) s3) (Bad prog w A env R) s2) (Bad prog w A env R) s1) (Bad prog w A env R) s)
    (n : Nat) (start : St n s) : codeAny (model prog w) A (.compLoop (DC2 kx vx t0 i0 f0 t1 i1 f1 scope pos) 1 it (.ref D) env) R s := by
  refine codeAny_loop rfl St ?_ n start
  intro n s now
  show wpAny _ A ((compTurn (DC2 kx vx t0 i0 f0 t1 i1 f1 scope pos) 1 it (.ref D) env).onRaise (fun x => do noteFrame x env; theTreesLotGoes x)) _ _ s
  apply wpAny_noted
  rw [second_turn]
  apply wpAny_bind; apply wpAny_standAt; apply wpAny_bind
  apply wpAny_mono (turn n s now) _ (fun _ _ z => z)
  intro got s1 q1
  cases got with
  | none => exact wpAny_pure q1
  | some v =>
    apply wpAny_bind; apply wpAny_mono q1 _ (fun _ _ z => z); intro _ s2 q2
    apply wpAny_bind; apply wpAny_mono q2 _ (fun _ _ z => z); intro _ s3 q3
    apply wpAny_bind; apply wpAny_mono q3 _ (fun _ _ z => z); intro ok s4 q4
    cases ok with
    | false => exact wpAny_pure ⟨rfl, q4⟩
    | true =>
      apply wpAny_bind; apply wpAny_bind; apply wpAny_mono q4 _ (fun _ _ z => z); intro kv s5 q5
      apply wpAny_bind; apply wpAny_holding; apply wpAny_mono q5 _ (fun _ _ z => z); intro vv s6 q6
      apply wpAny_bind; apply wpAny_standAt; apply wpAny_holding; apply wpAny_mono q6 _ (fun _ _ z => z); intro _ s7 q7
      exact wpAny_pure ⟨rfl, q7⟩
/-- the second clause begins -/
theorem second_start (own : codeAny (model prog w) A (.compLoop (DC2 kx vx t0 i0 f0 t1 i1 f1 scope pos) 1 it (.ref D) env) R s)
    (anew : wpAny (model prog w) A (pyIter it) (fun it2 s2 => codeAny (model prog w) A (.compLoop (DC2 kx vx t0 i0 f0 t1 i1 f1 scope pos) 1 it2 (.ref D) env) R s2) (Bad prog w A env R) s) :
    codeAny (model prog w) A (.compStart (DC2 kx vx t0 i0 f0 t1 i1 f1 scope pos) 1 it (.ref D) env) R s := by
  apply codeAny_of_tree
  show wpAny _ _ ((compStart (DC2 kx vx t0 i0 f0 t1 i1 f1 scope pos) 1 it (.ref D) env).onRaise (fun x => do noteFrame x env; standAt theWindowsPlace)) _ _ s
  apply wpAny_notedAt
  unfold compStart
  show wpAny _ _ (ask >>= _) _ _ s
  apply wpAny_bind; apply wpAny_askSetting; apply wpAny_ite
  split
  · first
      | exact wpAny_bind (wpAny_pure (wpAny_pure ⟨rfl, own⟩))
      | exact wpAny_pure ⟨rfl, own⟩
  · apply wpAny_bind; apply wpAny_rule
    show wpAny _ _ (standAt i1.pos >>= _) _ _ s
    apply wpAny_bind; apply wpAny_standAt; apply wpAny_bind
    apply wpAny_mono anew _ (fun _ _ z => z)
    intro it2 s2 q2
    exact wpAny_pure ⟨rfl, q2⟩
end
end Ol

set_option Elab.async false
set_option linter.all false
set_option maxRecDepth 100000
set_option maxHeartbeats 16000000
namespace Ol
open PySem PySem.Spec PyProof.Rows L2
/-- a dict comprehension of two clauses: the outer walk's measure W, for each of its things the inner walk's V; keys are ints or texts -/
def tDc2 (wi : TI) (g : TG) (tt : TT) (wi1 : TI) (g1 : TG) (tt1 : TT) (tk tv : TE) (vs vs1 : List Nat) : TE := fun σ H Q => wi σ H fun J Ha => ∀ D, Ha D = none → ∃ W : Nat → Nat → Hp → Prop, (∃ m, W 0 m (upd Ha D (.dK []))) ∧ ∀ i m Hb, W i m Hb →
  (J.stop i Hb ∧ Q (.ref D) Hb) ∨ (J.go i Hb ∧ ∃ On : Hp → Prop, (∀ Hc, On Hc → ∃ m2, m2 < m ∧ W (i + 1) m2 Hc) ∧ ∀ x Hc, J.yld i Hb x Hc → g x (wipe σ vs) Hc fun σ2 Hd => wipe σ2 vs = wipe σ vs ∧ tt σ2 Hd fun b He =>
    if b = true then wi1 σ2 He fun J1 Hf => ∃ V1 : Nat → Nat → Hp → Prop, (∃ k, V1 0 k Hf) ∧ ∀ j k Hg, V1 j k Hg →
      (J1.stop j Hg ∧ On Hg) ∨ (J1.go j Hg ∧ ∃ On1 : Hp → Prop, (∀ Hh, On1 Hh → ∃ k2, k2 < k ∧ V1 (j + 1) k2 Hh) ∧ ∀ y Hh, J1.yld j Hg y Hh → g1 y (wipe σ2 vs1) Hh fun σ3 Hi => wipe σ3 vs1 = wipe σ2 vs1 ∧ tt1 σ3 Hi fun b1 Hj =>
        if b1 = true then tk σ3 Hj fun key Hk => tv σ3 Hk fun val Hl => ∃ kvs k, key = kV k ∧ Hl D = some (.dK kvs) ∧ kvs.length < sizeLine ∧ On1 (upd Hl D (.dK (putK kvs k val))) else On1 Hj)
    else On He)
theorem wipe_apart {σ : L2.St} {vs vs1 : List Nat} (sub : ∀ i ∈ vs1, i ∈ vs) {j : Nat} {v : V} (h : (wipe σ vs)[j]? = some (some v)) : (wipe σ vs1)[j]? = some (some v) := by
  obtain ⟨e, out⟩ := wipe_some h
  rw [wipe_out fun z => out (sub j z)]
  exact e
section
variable {X : Cx}
theorem dc2_core {pins : List (Addr × Obj)} {s : Shared} {σ : L2.St} {H : Hp} {Q : VK} {kx vx t0 i0 t1 i1 : Expr} {f0 f1 : List Expr} {scope : Scope} {own : List (Str × Nat)} {vs1 : List Nat} {pos at_ : Pos} {wi wi1 : TI} {g g1 : TG} {tt tt1 : TT} {tk tv : TE} {use : Option (Value → Sem Unit)} {Qf : Value → Shared → Prop}
    (calm : X.calm = true) (nd : X.N.Nodup) (I : Inv X pins σ H s) (src : PI X t0 i0 wi) (ok : BlkOk X.N X.env.scope scope own) (sub : ∀ i ∈ vs1, i ∈ own.map (·.2))
    (pg : ∀ (s : Shared) (H : Hp) (C : Addr) (cl : List (Str × Addr)) (fp : List Addr), PG (X.blk s H scope (compEnvC scope cl C X.env) fp) t0 g)
    (pt : ∀ (s : Shared) (H : Hp) (C : Addr) (cl : List (Str × Addr)) (fp : List Addr), PTs (X.blk s H scope (compEnvC scope cl C X.env) fp) f0 tt)
    (src1 : ∀ (s : Shared) (H : Hp) (C : Addr) (cl : List (Str × Addr)) (fp : List Addr), PI (X.blk s H scope (compEnvC scope cl C X.env) fp) t1 i1 wi1)
    (pg1 : ∀ (s : Shared) (H : Hp) (C : Addr) (cl : List (Str × Addr)) (fp : List Addr), PG (X.blk s H scope (compEnvC scope cl C X.env) fp) t1 g1)
    (pt1 : ∀ (s : Shared) (H : Hp) (C : Addr) (cl : List (Str × Addr)) (fp : List Addr), PTs (X.blk s H scope (compEnvC scope cl C X.env) fp) f1 tt1)
    (pk : ∀ (s : Shared) (H : Hp) (C : Addr) (cl : List (Str × Addr)) (fp : List Addr), PE (X.blk s H scope (compEnvC scope cl C X.env) fp) kx tk)
    (pw : ∀ (s : Shared) (H : Hp) (C : Addr) (cl : List (Str × Addr)) (fp : List Addr), PE (X.blk s H scope (compEnvC scope cl C X.env) fp) vx tv)
    (plain : ∀ x, foldedSetIterable i0 X.env x = pure x) (plain1 : ∀ env x, foldedSetIterable i1 env x = pure x)
    (h : tDc2 wi g tt wi1 g1 tt1 tk tv (own.map (·.2)) vs1 σ H Q)
    (done : ∀ D C s2 ns H2, Inv X pins σ H2 s2 → Q (.ref D) H2 → s2.heap.Ns C ns → FpOk X pins H2 C → compPost (model X.prog X.w) X.A X.xe use Qf (.ref D) C (.ok .next) s2) :
    wpAny (model X.prog X.w) X.A (comprehension (DC2 kx vx t0 i0 f0 t1 i1 f1 scope pos) scope X.env at_ newDict false (eval i0 X.env) use) Qf X.xe s := by
  have cells : ∀ y ∈ scope.names, y.2 = .free → ∃ c, X.env.cells.lookup y.1 = some c := by
    intro y my free
    exact I.ok.has _ (ok.free y my free)
  apply wpAny_comprehension_free (use := use) rfl plain (closure_ok cells) ok.kind (fun y my free => by rw [ok.uniq y my, free])
  apply thn (src.run pins s σ H _ I h)
  intro seen sa at_src
  apply thn at_src
  rintro itv s2 ⟨it, fp, tn, J, H2, rfl, I2, T, place, foot, q⟩
  refine wpAny_newObj_type (newEnv_comp ?_)
  generalize atD : s2.heap.objs.size = D
  obtain ⟨W, ⟨m0, w0⟩, go_on⟩ := q D (I2.hok.fresh (Nat.le_of_eq atD))
  -- the dict, empty
  generalize made : ({ s2 with heap := s2.heap.push { cls := .type "dict", data := .dict #[] } } : Shared) = s3
  have heap3 : s3.heap = s2.heap.push { cls := .type "dict", data := .dict #[] } := by rw [← made]
  have stays : ∀ b o, s2.heap.get? b = some o → s3.heap.get? b = some o := fun b o z => by
    rw [heap3]
    exact Heap.get?_push_of_some _ z
  have I3 : Inv X pins σ (upd H2 D (.dK [])) s3 := by
    rw [← made]
    apply I2.laid (t' := s2.toks) (fun b o z => Heap.get?_push_of_some _ z) (Nat.le_of_eq atD)
    rw [← atD]
    exact dk_empty s2.heap I2.big
  have foot3 : ∀ b ∈ fp, FpOk X pins (upd H2 D (.dK [])) b ∧ b < s3.heap.objs.size := by
    intro b mb
    obtain ⟨o, got, _⟩ := T.obj _ _ place b mb
    have lt := Heap.lt_size got
    have ne : b ≠ D := atD ▸ Nat.ne_of_lt lt
    constructor
    · exact ⟨by rw [upd_ne ne]; exact (foot b mb).1, (foot b mb).2⟩
    · rw [heap3, Heap.size_push]
      exact Nat.lt_succ_of_lt lt
  have place3 : tn 0 s3.heap := T.keep _ _ _ place fun b _ o z => stays b o z
  have I4 := block_start I3 ok nd foot3
  generalize ecl : cellsFrom (s3.heap.objs.size + 1) scope.names (cloFrom X.env.cells scope.names []) = cl at I4
  have pg := pg s3 (upd H2 D (.dK [])) s3.heap.objs.size cl fp
  have pt := pt s3 (upd H2 D (.dK [])) s3.heap.objs.size cl fp
  have src1 := src1 s3 (upd H2 D (.dK [])) s3.heap.objs.size cl fp
  have pg1 := pg1 s3 (upd H2 D (.dK [])) s3.heap.objs.size cl fp
  have pt1 := pt1 s3 (upd H2 D (.dK [])) s3.heap.objs.size cl fp
  have pk := pk s3 (upd H2 D (.dK [])) s3.heap.objs.size cl fp
  have pw := pw s3 (upd H2 D (.dK [])) s3.heap.objs.size cl fp
  show codeAny _ _ (.compStart (DC2 kx vx t0 i0 f0 t1 i1 f1 scope pos) 0 (.ref it) (.ref D) (compEnvC scope cl s3.heap.objs.size X.env)) (compPost (model X.prog X.w) X.A X.xe use Qf (.ref D) s3.heap.objs.size) { s3 with heap := pushCells (s3.heap.push { cls := .type "dict", data := .dict #[] }) scope.names }
  have blank : ∀ b ∈ fp, (upd H2 D (.dK [])) b = none := fun b mb => (foot3 b mb).1.1
  generalize ece : compEnvC scope cl s3.heap.objs.size X.env = ce at I4 pg pt src1 pg1 pt1 pk pw ⊢
  have here : ce.locals = s3.heap.objs.size := by subst ece; rfl
  generalize e3 : upd H2 D (.dK []) = H3 at I3 I4 pg pt src1 pg1 pt1 pk pw w0 blank foot3
  generalize e4 : ({ s3 with heap := pushCells (s3.heap.push { cls := .type "dict", data := .dict #[] }) scope.names } : Shared) = s4 at I4 ⊢
  have place4 : tn 0 s4.heap := T.keep _ _ _ place3 fun b _ o z => by
    rw [← e4]
    exact pushCells_keeps _ _ _ _ (Heap.get?_push_of_some _ z)
  have foots : ∀ {σ' : L2.St} {H' : Hp} {s' : Shared}, Inv (X.blk s3 H3 scope ce fp) [] σ' H' s' → (∀ b ∈ fp, H' b = none) → ∀ b ∈ fp, FpOk (X.blk s3 H3 scope ce fp) [] H' b := by
    intro σ' H' s' I' no b mb
    have ex := I'.ok.exf b mb
    refine ⟨no b mb, ex.1, I'.ok.exfs b mb, .inl mb, fun x c z => ex.2 x c z, ?_⟩
    intro p mp
    have mp' : p ∈ ([] : List (Addr × Obj)) ++ [] := mp
    simp at mp'
  have whole : codeAny (model X.prog X.w) X.A (.compLoop (DC2 kx vx t0 i0 f0 t1 i1 f1 scope pos) 0 (.ref it) (.ref D) ce) (compPost (model X.prog X.w) X.A X.xe use Qf (.ref D) s3.heap.objs.size) s4 := by
    refine first_loop (plain1 ce) (fun n s' => ∃ i H', Inv (X.blk s3 H3 scope ce fp) [] (wipe σ (own.map (·.2))) H' s' ∧ tn i s'.heap ∧ (∀ b ∈ fp, H' b = none) ∧ W i n H') ?_ m0 ⟨0, H3, I4, place4, blank, w0⟩
    rintro n s5 ⟨i, H5, I5, p5, b5, w5⟩
    rcases go_on i n H5 w5 with ⟨stop, fin⟩ | ⟨go, On, next, step⟩
    · apply thnF (T.done (X.blk s3 H3 scope ce fp) rfl rfl rfl calm i [] s5 _ H5 (fun _ _ => False) I5 (foots I5 b5) p5 stop)
      rintro got s6 ⟨rfl, I6⟩
      have I7 : Inv X pins σ H5 s6 := I3.call' (ch := fp) I6.os I6.base I6.hok I6.bare fun b mb =>
        let z := (foot3 b mb).1.2
        ⟨z.2.2.1, z.1, z.2.2.2.1, z.2.2.2.2⟩
      have none_here : H5 s3.heap.objs.size = none := by
        have z : H5 ce.locals = none := I6.free
        exact here ▸ z
      obtain ⟨ns, at_ns, _⟩ := I6.loc
      have at_ns : s6.heap.Ns ce.locals ns := at_ns
      rw [here] at at_ns
      exact done D s3.heap.objs.size s6 ns H5 I7 fin at_ns (I3.fpOk (Nat.le_refl _) none_here)
    · apply thnF (T.item (X.blk s3 H3 scope ce fp) rfl rfl rfl calm i [] s5 _ H5 (fun _ _ => False) I5 (foots I5 b5) p5 go)
      rintro got s6 ⟨u, rfl, at_u⟩
      apply thnF at_u
      rintro _ s7 ⟨x, H7, I7, rx, y7, p7, b7⟩
      apply thnF (pg.run _ s7 _ H7 x u _ (I7.pinned (foots I7 b7) (T.obj _ _ p7)) rx (step x H7 y7))
      rintro _ s8 ⟨σ8, H8, I8, hw, q8⟩
      apply thnF (pt.run _ s8 σ8 H8 _ I8 q8)
      rintro b s9 ⟨H9, I9, q9⟩
      -- back at the outer walk
      have back : ∀ {σ9 : L2.St} {s' : Shared} {H' : Hp}, Inv (X.blk s3 H3 scope ce fp) ([] ++ pinsAt fp s7.heap) σ9 H' s' → (wipe σ (own.map (·.2))).length = σ9.length →
          (∀ (j : Nat) v, (wipe σ (own.map (·.2)))[j]? = some (some v) → σ9[j]? = some (some v)) → On H' → ∃ m, m < n ∧ ∃ i H', Inv (X.blk s3 H3 scope ce fp) [] (wipe σ (own.map (·.2))) H' s' ∧ tn i s'.heap ∧ (∀ b ∈ fp, H' b = none) ∧ W i m H' := by
        intro σ9 s' H' I' len know on
        obtain ⟨m, lt, w'⟩ := next H' on
        have pinned : ∀ c ∈ fp, ∀ o, s7.heap.get? c = some o → s'.heap.get? c = some o ∧ H' c = none := by
          intro c mc o got
          have z := I'.pin (c, o) (List.mem_append_right _ (List.mem_append_right _ (mem_pinsAt mc got)))
          exact ⟨z.1, z.2.1⟩
        refine ⟨m, lt, i + 1, H', (I'.unpinned (pins := [])).weak len know, T.keep _ _ _ p7 (fun c mc o got => (pinned c mc o got).1), ?_, w'⟩
        intro c mc
        obtain ⟨o, got, _⟩ := T.obj _ _ p7 c mc
        exact (pinned c mc o got).2
      have len8 : (wipe σ (own.map (·.2))).length = σ8.length := hw ▸ wipe_length σ8 _
      have know8 : ∀ (j : Nat) v, (wipe σ (own.map (·.2)))[j]? = some (some v) → σ8[j]? = some (some v) := by
        intro j v z
        rw [← hw] at z
        exact (wipe_some z).1
      have know9 : ∀ (j : Nat) v, (wipe σ (own.map (·.2)))[j]? = some (some v) → (wipe σ8 vs1)[j]? = some (some v) := by
        intro j v z
        rw [← hw] at z
        exact wipe_apart sub z
      by_cases yes : b = true
      case neg =>
        rw [if_neg yes] at q9 ⊢
        exact back I9 len8 know8 q9
      rw [if_pos yes] at q9 ⊢
      apply thnF (src1.run _ s9 σ8 H9 _ I9 q9)
      intro seen1 sb at1
      apply thnF at1
      rintro itv1 s11 ⟨it1, fp1, tn1, J1, H11, rfl, I11, T1, p11, foot1, V1, ⟨m1, w1⟩, turn1⟩
      have foots1 : ∀ {H' : Hp}, (∀ c ∈ fp1, H' c = none) → ∀ c ∈ fp1, FpOk (X.blk s3 H3 scope ce fp) ([] ++ pinsAt fp s7.heap) H' c := fun no c mc => ⟨no c mc, (foot1 c mc).2⟩
      have inner : codeAny (model X.prog X.w) X.A (.compLoop (DC2 kx vx t0 i0 f0 t1 i1 f1 scope pos) 1 (.ref it1) (.ref D) ce)
          (fun r s' => match r with
            | .ok _ => ∃ m, m < n ∧ ∃ i H', Inv (X.blk s3 H3 scope ce fp) [] (wipe σ (own.map (·.2))) H' s' ∧ tn i s'.heap ∧ (∀ b ∈ fp, H' b = none) ∧ W i m H'
            | .error _ => False) s11 := by
        refine second_loop (fun k s' => ∃ j H', Inv (X.blk s3 H3 scope ce fp) ([] ++ pinsAt fp s7.heap) (wipe σ8 vs1) H' s' ∧ tn1 j s'.heap ∧ (∀ c ∈ fp1, H' c = none) ∧ V1 j k H') ?_ m1
          ⟨0, H11, I11.weak (wipe_length _ _) (fun j v z => (wipe_some z).1), p11, fun c mc => (foot1 c mc).1, w1⟩
        rintro k s12 ⟨j, H12, I12, p12, b12, w12⟩
        rcases turn1 j k H12 w12 with ⟨stop1, on⟩ | ⟨go1, On1, next1, step1⟩
        · apply thnF (T1.done (X.blk s3 H3 scope ce fp) rfl rfl rfl calm j _ s12 (wipe σ8 vs1) H12 (fun _ _ => False) I12 (foots1 b12) p12 stop1)
          rintro got s13 ⟨rfl, I13⟩
          exact back I13 (len8.trans (wipe_length σ8 vs1).symm) know9 on
        · apply thnF (T1.item (X.blk s3 H3 scope ce fp) rfl rfl rfl calm j _ s12 (wipe σ8 vs1) H12 (fun _ _ => False) I12 (foots1 b12) p12 go1)
          rintro got s13 ⟨u1, rfl, at_u1⟩
          apply thnF at_u1
          rintro _ s14 ⟨x1, H14, I14, rx1, y14, p14, b14⟩
          apply thnF (pg1.run _ s14 (wipe σ8 vs1) H14 x1 u1 _ (I14.pinned (foots1 b14) (T1.obj _ _ p14)) rx1 (step1 x1 H14 y14))
          rintro _ s15 ⟨σ15, H15, I15, hw15, q15⟩
          apply thnF (pt1.run _ s15 σ15 H15 _ I15 q15)
          rintro b1 s16 ⟨H16, I16, q16⟩
          have back1 : ∀ {s' : Shared} {H' : Hp}, Inv (X.blk s3 H3 scope ce fp) (([] ++ pinsAt fp s7.heap) ++ pinsAt fp1 s14.heap) σ15 H' s' → On1 H' →
              ∃ m, m < k ∧ ∃ j H', Inv (X.blk s3 H3 scope ce fp) ([] ++ pinsAt fp s7.heap) (wipe σ8 vs1) H' s' ∧ tn1 j s'.heap ∧ (∀ c ∈ fp1, H' c = none) ∧ V1 j m H' := by
            intro s' H' I' on1
            obtain ⟨m, lt, w'⟩ := next1 H' on1
            have pinned : ∀ c ∈ fp1, ∀ o, s14.heap.get? c = some o → s'.heap.get? c = some o ∧ H' c = none := by
              intro c mc o got
              have z := I'.pin (c, o) (List.mem_append_right _ (List.mem_append_right _ (mem_pinsAt mc got)))
              exact ⟨z.1, z.2.1⟩
            refine ⟨m, lt, j + 1, H', I'.unpinned.weak (by rw [← hw15, wipe_length]) ?_, T1.keep _ _ _ p14 (fun c mc o got => (pinned c mc o got).1), ?_, w'⟩
            · intro l v z
              rw [← hw15] at z
              exact (wipe_some z).1
            · intro c mc
              obtain ⟨o, got, _⟩ := T1.obj _ _ p14 c mc
              exact (pinned c mc o got).2
          by_cases yes1 : b1 = true
          case neg =>
            rw [if_neg yes1] at q16 ⊢
            exact back1 I16 q16
          rw [if_pos yes1] at q16 ⊢
          apply thnF (pk.run _ s16 σ15 H16 _ I16 q16)
          rintro uk s17 ⟨key, H17, I17, rk, q17⟩
          apply thnF (pw.run _ s17 σ15 H17 _ I17 q17)
          rintro uv s18 ⟨val, H18, I18, rv, kvs, kk, rfl, hD18, few, on1⟩
          exact d_dictSet (X := X.blk s3 H3 scope ce fp) I18 hD18 few rk rv fun s19 I19 => back1 I19 on1
      exact second_start inner (T1.self X.A 0 _ _ _ p11 inner)
  exact codeAny_compStart_dict whole (T.self X.A 0 _ _ _ place4 whole)
/-- as a value -/
theorem pe_dc2 {kx vx t0 i0 t1 i1 : Expr} {f0 f1 : List Expr} {scope : Scope} {own : List (Str × Nat)} {vs1 : List Nat} {pos : Pos} {wi wi1 : TI} {g g1 : TG} {tt tt1 : TT} {tk tv : TE} (calm : X.calm = true) (nd : X.N.Nodup) (src : PI X t0 i0 wi) (ok : BlkOk X.N X.env.scope scope own) (sub : ∀ i ∈ vs1, i ∈ own.map (·.2))
    (pg : ∀ (s : Shared) (H : Hp) (C : Addr) (cl : List (Str × Addr)) (fp : List Addr), PG (X.blk s H scope (compEnvC scope cl C X.env) fp) t0 g)
    (pt : ∀ (s : Shared) (H : Hp) (C : Addr) (cl : List (Str × Addr)) (fp : List Addr), PTs (X.blk s H scope (compEnvC scope cl C X.env) fp) f0 tt)
    (src1 : ∀ (s : Shared) (H : Hp) (C : Addr) (cl : List (Str × Addr)) (fp : List Addr), PI (X.blk s H scope (compEnvC scope cl C X.env) fp) t1 i1 wi1)
    (pg1 : ∀ (s : Shared) (H : Hp) (C : Addr) (cl : List (Str × Addr)) (fp : List Addr), PG (X.blk s H scope (compEnvC scope cl C X.env) fp) t1 g1)
    (pt1 : ∀ (s : Shared) (H : Hp) (C : Addr) (cl : List (Str × Addr)) (fp : List Addr), PTs (X.blk s H scope (compEnvC scope cl C X.env) fp) f1 tt1)
    (pk : ∀ (s : Shared) (H : Hp) (C : Addr) (cl : List (Str × Addr)) (fp : List Addr), PE (X.blk s H scope (compEnvC scope cl C X.env) fp) kx tk)
    (pw : ∀ (s : Shared) (H : Hp) (C : Addr) (cl : List (Str × Addr)) (fp : List Addr), PE (X.blk s H scope (compEnvC scope cl C X.env) fp) vx tv)
    (plain : ∀ x, foldedSetIterable i0 X.env x = pure x := by intro _; rfl) (plain1 : ∀ env x, foldedSetIterable i1 env x = pure x := by intro _ _; rfl) :
    PE X (DC2 kx vx t0 i0 f0 t1 i1 f1 scope pos) (tDc2 wi g tt wi1 g1 tt1 tk tv (own.map (·.2)) vs1) := by
  constructor
  intro pins s σ H Q I h
  rw [arm_eval_DictComp]
  apply dc2_core (use := none) calm nd I src ok sub pg pt src1 pg1 pt1 pk pw plain plain1 h
  intro D C s2 ns H2 I2 q at_ns f
  refine ⟨ns, at_ns, fun h2 same => ?_⟩
  obtain ⟨z0, z1, _, z3, z4, z5⟩ := f
  exact ⟨.ref D, H2, I2.turned (t' := s2.toks) (fun b o ne z => (same.2 b ne).trans z) z0 z1 z3 z4 z5, rfl, q⟩
theorem sw_dict {kx vx : Expr} {gs : List Comprehension} {scope : Scope} {pos py : Pos} {y : Str} {l : Nat} {env : Env} (fn : env.scope.kind = .function) (loc : env.scope.names.lookup y = some .local) (row : (py.line == pos.line) = true)
    (no : (scope.names.any fun (n, k) => n == y && (k == .local || k == .cell)) = false) : swapsWith (.DictComp kx vx gs scope pos) (some (.Name y py)) l env = pure true := by
  have kind : env.kindOf y = some .local := loc
  have blk : env.blockKind = .function := by
    unfold Env.blockKind
    rw [fn]
    rfl
  unfold swapsWith
  simp only [blk, kind, no, Expr.pos, row]
  rfl
/-- stored in a plain name of the def -/
theorem ps_setDc2 {i : Nat} {y : Str} {py spos : Pos} {kx vx t0 i0 t1 i1 : Expr} {f0 f1 : List Expr} {scope : Scope} {own : List (Str × Nat)} {vs1 : List Nat} {pos : Pos} {wi wi1 : TI} {g g1 : TG} {tt tt1 : TT} {tk tv : TE} (calm : X.calm = true) (nd : X.N.Nodup) (hy : X.N[i]? = some y) (loc : X.env.scope.names.lookup y = some .local)
    (sw : swapsWith (DC2 kx vx t0 i0 f0 t1 i1 f1 scope pos) (some (.Name y py)) spos.line X.env = pure true) (src : PI X t0 i0 wi) (ok : BlkOk X.N X.env.scope scope own) (sub : ∀ i ∈ vs1, i ∈ own.map (·.2))
    (pg : ∀ (s : Shared) (H : Hp) (C : Addr) (cl : List (Str × Addr)) (fp : List Addr), PG (X.blk s H scope (compEnvC scope cl C X.env) fp) t0 g)
    (pt : ∀ (s : Shared) (H : Hp) (C : Addr) (cl : List (Str × Addr)) (fp : List Addr), PTs (X.blk s H scope (compEnvC scope cl C X.env) fp) f0 tt)
    (src1 : ∀ (s : Shared) (H : Hp) (C : Addr) (cl : List (Str × Addr)) (fp : List Addr), PI (X.blk s H scope (compEnvC scope cl C X.env) fp) t1 i1 wi1)
    (pg1 : ∀ (s : Shared) (H : Hp) (C : Addr) (cl : List (Str × Addr)) (fp : List Addr), PG (X.blk s H scope (compEnvC scope cl C X.env) fp) t1 g1)
    (pt1 : ∀ (s : Shared) (H : Hp) (C : Addr) (cl : List (Str × Addr)) (fp : List Addr), PTs (X.blk s H scope (compEnvC scope cl C X.env) fp) f1 tt1)
    (pk : ∀ (s : Shared) (H : Hp) (C : Addr) (cl : List (Str × Addr)) (fp : List Addr), PE (X.blk s H scope (compEnvC scope cl C X.env) fp) kx tk)
    (pw : ∀ (s : Shared) (H : Hp) (C : Addr) (cl : List (Str × Addr)) (fp : List Addr), PE (X.blk s H scope (compEnvC scope cl C X.env) fp) vx tv)
    (plain : ∀ x, foldedSetIterable i0 X.env x = pure x := by intro _; rfl) (plain1 : ∀ env x, foldedSetIterable i1 env x = pure x := by intro _ _; rfl) :
    PS X (.Assign [.Name y py] (DC2 kx vx t0 i0 f0 t1 i1 f1 scope pos) spos) (tAsg (tDc2 wi g tt wi1 g1 tt1 tk tv (own.map (·.2)) vs1) (gName i)) := by
  constructor
  intro pins s σ H D I h
  rw [exec_Assign_Name_used _ _ _ _ sw]
  apply wpAny_bind; apply wpAny_standAt; apply wpAny_bind
  show wpAny _ X.A (do
    let _ ← comprehension (DC2 kx vx t0 i0 f0 t1 i1 f1 scope pos) scope X.env (firstIterPos [⟨t0, i0, f0, 0⟩, ⟨t1, i1, f1, 0⟩] pos) newDict false (eval i0 X.env) (some (assign (.Name y py) X.env))) _ _ s
  apply wpAny_bind
  apply thn (Q := fun _ s2 => SP X pins D .next s2)
  · have h2 : tDc2 wi g tt wi1 g1 tt1 tk tv (own.map (·.2)) vs1 σ H (fun x H1 => gName i x σ H1 D.nx) := h
    apply dc2_core (Qf := fun _ s2 => SP X pins D .next s2) calm nd I src ok sub pg pt src1 pg1 pt1 pk pw plain plain1 h2
    intro L C s2 ns H2 I2 q at_ns f
    obtain ⟨z0, z1, _, z3, z4, z5⟩ := f
    show wpAny _ _ (assign (.Name y py) X.env (.ref L)) _ _ _
    refine wpAny_assign_Name (store_ok2 (v := V.ref L) I2 nd hy (.inl loc) rfl ?_ (.inr loc))
    rintro s3 I3 ⟨c, sb, own⟩
    have apart : C ≠ c := by
      rcases own with z | z
      · rw [z]
        exact z1
      · exact fun e => z4 y c z e.symm
    refine ⟨ns, at_ns.sameBut sb apart, fun h3 same => ?_⟩
    exact ⟨_, H2, I3.turned (t' := s3.toks) (fun b o ne z => (same.2 b ne).trans z) z0 z1 z3 z4 z5, q⟩
  · intro _ s2 q
    exact wpAny_pure (wpAny_pure q)
end
end Ol

set_option Elab.async false
set_option linter.all false
set_option maxRecDepth 100000
set_option maxHeartbeats 4000000
namespace Ol
open PySem PySem.Spec PyProof.Rows L2
/-- what the second clause is to do in turn i of the first one; the dict stands at D -/
def InnerD (P : Nat → Nat → List (Key × V) → Hp → Prop) (D : Addr) (H : Hp) (g1 : TG) (tt1 : TT) (tk tv : TE) (vs1 : List Nat) (i : Nat) (σ2 : L2.St) (J1 : It) (H4 : Hp) : Prop :=
  Ext H H4 ∧ ∃ n1 G1 Y1, Walk J1 n1 G1 Y1 ∧
    (∀ Hz, Ext (del H4 D) Hz → G1 Hz) ∧
    (∀ kvs Hz, P i n1 kvs Hz → P (i + 1) 0 kvs Hz) ∧
    ∀ j y Ha Hb kvs, j < n1 → Ext (del H4 D) Ha → Ha D = some (.dK kvs) → Y1 j Ha y Hb → P i j kvs (del Ha D) →
      ∀ (QY : V → V → Hp → Prop) (QN : Hp → Prop),
        (∀ k v H5, Ext Ha H5 → P i (j + 1) (putK kvs k v) (del H5 D) → QY (kV k) v H5) →
        (∀ H5, Ext Ha H5 → P i (j + 1) kvs (del H5 D) → QN H5) →
        g1 y (wipe σ2 vs1) Hb fun σ3 H5 => wipe σ3 vs1 = wipe σ2 vs1 ∧ tt1 σ3 H5 fun b H6 => if b = true then tk σ3 H6 fun key H7 => tv σ3 H7 fun val H8 => QY key val H8 else QN H6
/-- P holds of both turns, the dict so far, and all that stands but the dict -/
theorem dc2_acc {J : It} {n : Nat} {G : Hp → Prop} {Y : Nat → Hp → V → Hp → Prop} (w : Walk J n G Y) {g : TG} {wi1 : TI} {g1 : TG} {tt1 : TT} {tk tv : TE} {vs vs1 : List Nat} {σ : L2.St} {H1 : Hp} {D : Addr} {Qd : Hp → Prop}
    (P : Nat → Nat → List (Key × V) → Hp → Prop) (up : ∀ i j kvs H H', Ext H H' → P i j kvs H → P i j kvs H') (h0 : P 0 0 [] H1) (hD : H1 D = none)
    (few : ∀ i j kvs H, P i j kvs H → kvs.length < sizeLine) (hG : ∀ H, Ext H1 H → G H)
    (step : ∀ i x H H' kvs, i < n → Ext H1 H → H D = some (.dK kvs) → Y i H x H' → P i 0 kvs (del H D) →
      ∀ R : L2.St → It → Hp → Prop, (∀ σ2 J1 H4, InnerD P D H g1 tt1 tk tv vs1 i σ2 J1 H4 → R σ2 J1 H4) →
      g x (wipe σ vs) H' fun σ2 H2 => wipe σ2 vs = wipe σ vs ∧ wi1 σ2 H2 (R σ2))
    (last : ∀ H kvs, Ext H1 H → H D = some (.dK kvs) → P n 0 kvs H → Qd H) :
    ∃ W : Nat → Nat → Hp → Prop, (∃ m, W 0 m (upd H1 D (.dK []))) ∧ ∀ i m Hb, W i m Hb →
      (J.stop i Hb ∧ Qd Hb) ∨ (J.go i Hb ∧ ∃ On : Hp → Prop, (∀ Hc, On Hc → ∃ m2, m2 < m ∧ W (i + 1) m2 Hc) ∧ ∀ x Hc, J.yld i Hb x Hc → g x (wipe σ vs) Hc fun σ2 Hd => wipe σ2 vs = wipe σ vs ∧ tYes σ2 Hd fun b He =>
        if b = true then wi1 σ2 He fun J1 Hf => ∃ V1 : Nat → Nat → Hp → Prop, (∃ k, V1 0 k Hf) ∧ ∀ j k Hg, V1 j k Hg →
          (J1.stop j Hg ∧ On Hg) ∨ (J1.go j Hg ∧ ∃ On1 : Hp → Prop, (∀ Hh, On1 Hh → ∃ k2, k2 < k ∧ V1 (j + 1) k2 Hh) ∧ ∀ y Hh, J1.yld j Hg y Hh → g1 y (wipe σ2 vs1) Hh fun σ3 Hi => wipe σ3 vs1 = wipe σ2 vs1 ∧ tt1 σ3 Hi fun b1 Hj =>
            if b1 = true then tk σ3 Hj fun key Hk => tv σ3 Hk fun val Hl => ∃ kvs k, key = kV k ∧ Hl D = some (.dK kvs) ∧ kvs.length < sizeLine ∧ On1 (upd Hl D (.dK (putK kvs k val))) else On1 Hj)
        else On He) := by
  have e1 : Ext H1 (upd H1 D (.dK [])) := Ext.new hD
  let Pv : Nat → Hp → Prop := fun i H => ∃ kvs, Ext H1 H ∧ H D = some (.dK kvs) ∧ P i 0 kvs (del H D)
  refine ⟨fun i m H => m = n - i ∧ i ≤ n ∧ Pv i H, ⟨n, by simp, Nat.zero_le _, [], e1, upd_same, up 0 0 [] _ _ (ext_to e1 hD) h0⟩, ?_⟩
  rintro i m H ⟨rfl, hi, kvs, e, hx, hp⟩
  have q := hG H e
  by_cases hlt : i < n
  · refine .inr ⟨w.goes i H hlt q, Pv (i + 1), fun H' p' => ⟨n - (i + 1), by omega, rfl, hlt, p'⟩, fun x H' y => ?_⟩
    refine step i x H H' kvs hlt e hx (w.yields i H x H' hlt q y) hp (fun σ2 J1 Hf => ∃ V1 : Nat → Nat → Hp → Prop, (∃ k, V1 0 k Hf) ∧ ∀ j k Hg, V1 j k Hg →
          (J1.stop j Hg ∧ Pv (i + 1) Hg) ∨ (J1.go j Hg ∧ ∃ On1 : Hp → Prop, (∀ Hh, On1 Hh → ∃ k2, k2 < k ∧ V1 (j + 1) k2 Hh) ∧ ∀ y Hh, J1.yld j Hg y Hh → g1 y (wipe σ2 vs1) Hh fun σ3 Hi => wipe σ3 vs1 = wipe σ2 vs1 ∧ tt1 σ3 Hi fun b1 Hj =>
            if b1 = true then tk σ3 Hj fun key Hk => tv σ3 Hk fun val Hl => ∃ kvs k, key = kV k ∧ Hl D = some (.dK kvs) ∧ kvs.length < sizeLine ∧ On1 (upd Hl D (.dK (putK kvs k val))) else On1 Hj)) ?_
    rintro σ2 J1 H4 ⟨e4, n1, G1, Y1, w1, hG1, hend, hst⟩
    have e14 : Ext H1 (del H4 D) := ext_to (e.trans e4) hD
    let Pj : Nat → Hp → Prop := fun j Ha => ∃ ks, Ext (del H4 D) (del Ha D) ∧ Ha D = some (.dK ks) ∧ P i j ks (del Ha D)
    refine ⟨fun j k Ha => k = n1 - j ∧ j ≤ n1 ∧ Pj j Ha, ⟨n1, by simp, Nat.zero_le _, kvs, Ext.refl _, e4 _ _ hx, up _ _ _ _ _ (ext_del e4) hp⟩, ?_⟩
    rintro j k Ha ⟨rfl, hj, ks, ea, hy, hpj⟩
    have ea2 : Ext (del H4 D) Ha := ea.trans del_ext
    have q1 := hG1 Ha ea2
    by_cases hl1 : j < n1
    · refine .inr ⟨w1.goes j Ha hl1 q1, Pj (j + 1), fun H' p' => ⟨n1 - (j + 1), by omega, rfl, hl1, p'⟩, fun x1 Hb y1 => ?_⟩
      refine hst j x1 Ha Hb ks hl1 ea2 hy (w1.yields j Ha x1 Hb hl1 q1 y1) hpj (fun key val Hl => ∃ kvs k, key = kV k ∧ Hl D = some (.dK kvs) ∧ kvs.length < sizeLine ∧ Pj (j + 1) (upd Hl D (.dK (putK kvs k val)))) _ ?_ ?_
      · intro k v H5 e5 z
        exact ⟨ks, k, rfl, e5 _ _ hy, few _ _ _ _ hpj, putK ks k v, by rw [del_upd]; exact ea.trans (ext_del e5), upd_same, by rw [del_upd]; exact z⟩
      · intro H5 e5 z
        exact ⟨ks, ea.trans (ext_del e5), e5 _ _ hy, z⟩
    · have ej : j = n1 := by omega
      subst ej
      exact .inl ⟨w1.stops Ha q1, ks, e14.trans ea2, hy, hend _ _ hpj⟩
  · have ei : i = n := by omega
    subst ei
    exact .inl ⟨w.stops H q, last H kvs e hx (up _ _ _ _ _ del_ext hp)⟩
end Ol

set_option Elab.async false
set_option linter.all false
set_option maxRecDepth 100000
set_option maxHeartbeats 4000000
namespace Ol
open PySem PySem.Spec PyProof.Rows L2

theorem lt_irr : ∀ a : List Nat, ltCps a a = false
  | [] => rfl
  | a :: r => by
    unfold ltCps
    rw [lt_irr r]
    simp
theorem lt_asym : ∀ a b : List Nat, ltCps a b = true → ltCps b a = false
  | [], [], h => by cases h
  | [], _ :: _, _ => rfl
  | _ :: _, [], h => by cases h
  | a :: r, b :: t, h => by
    unfold ltCps at h ⊢
    simp only [Bool.or_eq_true, decide_eq_true_eq, Bool.and_eq_true, beq_iff_eq] at h
    simp only [Bool.or_eq_false_iff, decide_eq_false_iff_not, Bool.and_eq_false_iff, beq_eq_false_iff_ne]
    rcases h with h | ⟨h1, h2⟩
    · exact ⟨by omega, .inl (by omega)⟩
    · exact ⟨by omega, .inr (lt_asym r t h2)⟩
/-- the least of texts -/
theorem minD_strs : ∀ (xs : List Str) (x : Str), ∃ m ∈ x :: xs, PySem.W.minD (.str x) (xs.map PyData.str) = .str m ∧ ∀ y ∈ x :: xs, ltCps y.cps.toList m.cps.toList = false
  | [], x => ⟨x, List.mem_cons_self, rfl, fun y hy => by
      rw [List.mem_singleton.mp hy]
      exact lt_irr _⟩
  | y :: xs, x => by
    by_cases c : ltCps y.cps.toList x.cps.toList = true
    · obtain ⟨m, hm, e, h⟩ := minD_strs xs y
      have em : PySem.W.minD (.str x) ((y :: xs).map PyData.str) = PySem.W.minD (.str y) (xs.map PyData.str) := by
        unfold PySem.W.minD
        rw [List.map_cons, List.foldl_cons, PySem.W.dataLt_str, ← ltCps_eq, c, if_pos rfl]
      refine ⟨m, List.mem_cons_of_mem _ hm, em.trans e, fun z hz => ?_⟩
      rcases List.mem_cons.mp hz with rfl | hz
      · exact lt_trans _ _ _ (h y List.mem_cons_self) (lt_asym _ _ c)
      · exact h z hz
    · have c' : ltCps y.cps.toList x.cps.toList = false := Bool.eq_false_iff.mpr c
      obtain ⟨m, hm, e, h⟩ := minD_strs xs x
      have em : PySem.W.minD (.str x) ((y :: xs).map PyData.str) = PySem.W.minD (.str x) (xs.map PyData.str) := by
        unfold PySem.W.minD
        rw [List.map_cons, List.foldl_cons, PySem.W.dataLt_str, ← ltCps_eq, c', if_neg (by decide)]
      refine ⟨m, ?_, em.trans e, fun z hz => ?_⟩
      · rcases List.mem_cons.mp hm with rfl | hm
        · exact List.mem_cons_self
        · exact List.mem_cons_of_mem _ (List.mem_cons_of_mem _ hm)
      · rcases List.mem_cons.mp hz with rfl | hz
        · exact h _ List.mem_cons_self
        · rcases List.mem_cons.mp hz with rfl | hz
          · exact lt_trans _ _ _ (h x List.mem_cons_self) c'
          · exact h z (List.mem_cons_of_mem _ hz)
theorem reads_strs (h : Heap) : ∀ {us : List Value} {xs : List Str}, Vals (xs.map V.str) us → ReadsAll h us (xs.map PyData.str) []
  | [], [], .nil => .nil
  | _ :: _, _ :: _, .cons r rr => by
    obtain ⟨t, rfl⟩ := r
    exact .cons (as := []) (bs := []) (.str _ t) (reads_strs h rr)
theorem depth_strs : ∀ xs : List Str, PyData.depthAll (xs.map PyData.str) ≤ 1
  | [] => by simp [PyData.depthAll]
  | x :: xs => by
    have := depth_strs xs
    simp [PyData.depthAll, PyData.depth]
    omega
/-- min(xs) of texts -/
def rMinS (K : PySem.W.Frag) : List V → Hp → VK → Prop := fun vs H Q => ∃ (a : Addr) (xs : List Str), vs = [V.ref a] ∧ SqL K H a (xs.map V.str) ∧ xs ≠ [] ∧ ∀ m, m ∈ xs → (∀ y ∈ xs, ltCps y.cps.toList m.cps.toList = false) → Q (.str m) H
theorem call_minS {X : Cx} {k : Nat} (hc : X.calm = true) (hr : Room k X.A) : CallR X (.builtin "min") (rMinS X.K) := by
  intro pins s σ H vs us Q I r h
  obtain ⟨a, xs, rfl, hs, hne, q⟩ := h
  obtain ⟨its, rv, hl, _⟩ := I.list hs
  rw [Vals.ref1 r]
  cases xs with
  | nil => exact absurd rfl hne
  | cons x xs =>
    refine PySem.W.min_list_data (x := .str x) (xs := xs.map PyData.str) (as := []) (I.ok.hd hc) hl.isList (reads_strs _ (xs := x :: xs) rv) ⟨fun y hy z hz => ?_, fun y hy => ?_⟩ ?_ fun i v h' tk bs hv rd hk => ?_
    · have hy' : y ∈ (x :: xs).map PyData.str := hy
      have hz' : z ∈ (x :: xs).map PyData.str := hz
      obtain ⟨y', _, rfl⟩ := List.mem_map.mp hy'
      obtain ⟨z', _, rfl⟩ := List.mem_map.mp hz'
      simp [PySem.W.alike]
    · have hy' : y ∈ (x :: xs).map PyData.str := hy
      obtain ⟨y', _, rfl⟩ := List.mem_map.mp hy'
      exact fun z => nomatch z
    · have d1 : PyData.depthAll ((x :: xs).map PyData.str) ≤ 1 := depth_strs _
      have u1 := hr.units
      have : PyData.depthAll (PyData.str x :: xs.map PyData.str) ≤ 1 := d1
      omega
    · obtain ⟨m, hm, e, hmin⟩ := minD_strs xs x
      rw [e] at rd
      cases rd with
      | str _ t => exact ⟨.str m, H, I.kept hk, ⟨t, rfl⟩, q m hm hmin⟩
end Ol

set_option Elab.async false
set_option linter.all false
set_option maxRecDepth 100000
set_option maxHeartbeats 4000000
namespace Ol
open PySem PySem.Spec PyProof.Rows L2 HotX L2H
/-! A list comprehension over a list, while an exception is handled. -/
section
variable {prog : Program} {w : World} {A : Around} {E : Value → Shared → Prop} {sz : Shared}
theorem list_end_hot {it l x1 : Addr} {i : Nat} {items : Array Value} {Qz : Option Value → Shared → Prop} (hot : HotAt A x1 sz.heap)
    (hitz : sz.heap.IsListIter it l i) (hlz : sz.heap.IsList l items) (hxz : items[i]? = none)
    (hQz : ∀ h', Heap.ExtBut it sz.heap h' → Qz none { sz with heap := h' }) : wpAny (model prog w) A (pyNext (.ref it)) Qz E sz := by
  obtain ⟨o, hoz, hc, hd⟩ := id hitz
  obtain ⟨olz, holz, _, nlz, hdlz⟩ := hlz
  obtain ⟨hhz, o1z, vs1z, h1z, d1z, c1z⟩ := hot
  have ne : x1 ≠ it := fun z => by
    rw [z, hoz] at h1z
    cases h1z
    rw [hd] at d1z
    cases d1z
    cases c1z
  unfold pyNext
  refine wpAny_bind (wpAny_attempt (wpAny_callSpecial?_slot (name := Str.ofString "__next__") hitz.typeIs slot_listiter_next
    (wpAny_call_entry slot_listiter_next hitz.typeIs entry_listiter_next ?_ (args_listiter_next _))))
  show wpAny _ _ (field (.ref it) 0 >>= _) _ _ sz
  refine wpAny_bind (wpAny_field hoz hd (x := .ref l) rfl ?_)
  show wpAny _ _ (if (Value.ref l == Value.none) = true then _ else _) _ _ sz
  rw [if_neg (show ¬ ((Value.ref l == Value.none) = true) from Bool.false_ne_true)]
  show wpAny _ _ (field (.ref it) 1 >>= _) _ _ sz
  refine wpAny_bind (wpAny_field hoz hd (x := .int i 0) rfl ?_)
  show wpAny _ _ (seqItems? (.ref l) >>= _) _ _ sz
  refine wpAny_bind (wpAny_seqItems holz hdlz ?_)
  simp only [Int.toNat_natCast, hxz]
  refine wpAny_bind (wpAny_rule (wpAny_bind (wpAny_setField hoz hd (by simp) ?_)))
  show wpAny _ _ (newExc (.type "StopIteration") [] >>= _) _ _ _
  refine wpAny_bind ?_
  simp only [newExc, newTuple]
  refine wpAny_bind (wpAny_newObj_type ?_ (by size_fits))
  refine wpAny_bind (m := firstArgMember _ _) (wpAny_of_eq (a := Value.none) (by first | rfl | (simp only [firstArgMember]; rfl)) ?_)
  refine wpAny_newObj_type ?_ (by size_fits)
  have h2 := Heap.get?_push_of_some { cls := .type "tuple", data := .seq #[] } ((Heap.get?_update_other sz.heap (Obj.mapFields fun x => x.setIfInBounds 0 Value.none) (Ne.symm ne)).trans h1z)
  refine raiseNew_hot ⟨hhz, o1z, vs1z, Heap.get?_push_of_some _ h2, d1z, c1z⟩ (Nat.ne_of_lt (Heap.lt_size h2)) (Heap.get?_push_size _ rfl) rfl (by first | (simp; done) | (simp; omega) | (simp only [Array.size_append]; simp; omega)) ?_
  refine wpAny_bind (wpAny_isInstance (T := "StopIteration") (b := true) ⟨_, Heap.get?_update_self _ (Heap.get?_push_size _ rfl) rfl, rfl⟩ isSubtype_stop ?_)
  refine wpAny_pure (hQz _ fun b uz hb e => ?_)
  have eb := (((Heap.SameBut.update sz.heap it (Obj.mapFields fun x => x.setIfInBounds 0 Value.none)).extBut.push { cls := .type "tuple", data := .seq #[] }) b uz hb e)
  rw [Heap.get?_update_other _ _ (Nat.ne_of_gt (Heap.lt_size eb))]
  exact Heap.get?_push_of_some _ eb
end
/-! ### the block, the handled exception pinned -/
section
variable {X : Cx} {pins : List (Addr × Obj)} {σ : L2.St} {Hz : Hp} {sz : Shared}
theorem block_pin {scope : Scope} {own : List (Str × Nat)} {fp : List Addr} (Iz : Inv X pins σ Hz sz) (ok : BlkOk X.N X.env.scope scope own) (hN : X.N.Nodup) (hfp : ∀ b ∈ fp, FpOk X pins Hz b ∧ b < sz.heap.objs.size) {p : Addr × Obj} (hp : p ∈ X.pn) :
    Inv (X.blk sz Hz scope (compEnvC scope (cellsFrom (sz.heap.objs.size + 1) scope.names (cloFrom X.env.cells scope.names [])) sz.heap.objs.size X.env) fp) [p] (wipe σ (own.map (·.2))) Hz { sz with heap := pushCells (sz.heap.push { cls := .type "dict", data := .dict #[] }) scope.names } := by
  have B := block_start Iz ok hN hfp
  obtain ⟨g, fH, nlz, nf, nc⟩ := Iz.pin p (List.mem_append_left _ hp)
  refine ⟨B.ok, B.os, B.bare, B.base, B.loc, B.cell, B.free, B.freeC, fun q hq => ?_, B.hok, B.len⟩
  have e : q = p := by simpa using hq
  subst e
  refine ⟨pushCells_keeps _ _ _ _ (Heap.get?_push_of_some _ g), fH, ?_, fun z => ?_, nc⟩
  · show q.1 ≠ sz.heap.objs.size
    exact Nat.ne_of_lt (Heap.lt_size g)
  · rcases List.mem_cons.mp (Iz.stkSub q.1 z) with y | y
    · exact nlz y
    · exact nf y
/-- the handled exception, by its pin -/
theorem hot_of {A : Around} {p : Addr × Obj} (h : Hot1 A p) {X : Cx} {pins : List (Addr × Obj)} {σ : L2.St} {Hz : Hp} {sz : Shared} (Iz : Inv X pins σ Hz sz) (hp : p ∈ X.pn ++ pins) : HotAt A p.1 sz.heap := by
  obtain ⟨hhz, v1, e1, c1z⟩ := h
  exact ⟨hhz, p.2, v1, (Iz.pin p hp).1, e1, c1z⟩
/-- one more item of a list -/
theorem list_item {tg : Expr} {a it : Addr} {i : Nat} {E : Value → Shared → Prop} (Iz : Inv X pins σ Hz sz) (hf : FpOk X pins Hz it) (st : sz.heap.IsListIter it a i) (hgz : (Itl X.K a).go i Hz) :
    wpAny (model X.prog X.w) X.A (pyNext (.ref it)) (fun r s1z => ∃ uz, r = some uz ∧
      wpAny (model X.prog X.w) X.A (letOwnedTupleGo tg (.ref it) uz) (fun _ s2z => ∃ x H', Inv X pins σ H' s2z ∧ RelV x uz ∧ (Itl X.K a).yld i Hz x H' ∧ s2z.heap.IsListIter it a (i + 1) ∧ H' it = none) E s1z) E sz := by
  obtain ⟨xs, x, hq, hxz⟩ := hgz
  obtain ⟨its, rvz, q, hz⟩ := Iz.list hq
  obtain ⟨uz, huz, ru⟩ := rvz.get hxz
  obtain ⟨f0, f1, f2, f3, f4, f5⟩ := hf
  refine wpAny_pyNext_list_item st q.isList (x := uz) (by simpa using huz) fun h' st' sb => ?_
  have I1z : Inv X pins σ Hz { sz with heap := h' } := Iz.turned (t' := sz.toks) (fun b o hb e => (sb.2 b hb).trans e) f0 f1 f3 f4 f5
  obtain ⟨o, e, c, d⟩ := id st'
  exact ⟨uz, rfl, go_of (s := { sz with heap := h' }) e c d (by decide) ⟨x, Hz, I1z, ru, ⟨rfl, fun ys hy => by rw [Iz.list_inj hy hq]; exact hxz⟩, st', f0⟩⟩
/-- no more items -/
theorem list_done {a it x1 : Addr} {i : Nat} {E : Value → Shared → Prop} (Iz : Inv X pins σ Hz sz) (hot : HotAt X.A x1 sz.heap) (hf : FpOk X pins Hz it) (st : sz.heap.IsListIter it a i) (hgz : (Itl X.K a).stop i Hz) :
    wpAny (model X.prog X.w) X.A (pyNext (.ref it)) (fun r s1z => r = none ∧ Inv X pins σ Hz s1z) E sz := by
  obtain ⟨xs, hq, hxz⟩ := hgz
  obtain ⟨its, rvz, q, hz⟩ := Iz.list hq
  obtain ⟨f0, f1, f2, f3, f4, f5⟩ := hf
  have hlz := rvz.length
  exact list_end_hot hot st q.isList (by simp; omega) fun h' eb => ⟨rfl, Iz.turned (t' := sz.toks) (fun b o hb e => eb b o hb e) f0 f1 f3 f4 f5⟩
theorem lc_coreH {Qz : VK} {eltz tg iter : Expr} {ifsz : List Expr} {scope : Scope} {own : List (Str × Nat)} {pos pos' : Pos} {tl : TE} {g : TG} {tt : TT} {te : TE} {use : Option (Value → Sem Unit)} {Qfz : Value → Shared → Prop}
    (hc : HotC X) (hN : X.N.Nodup) (Iz : Inv X pins σ Hz sz) (hi : PE X iter tl) (ok : BlkOk X.N X.env.scope scope own)
    (hgz : ∀ (sz : Shared) (Hz : Hp) (C : Addr) (cl : List (Str × Addr)) (fp : List Addr), PG (X.blk sz Hz scope (compEnvC scope cl C X.env) fp) tg g) (htz : ∀ (sz : Shared) (Hz : Hp) (C : Addr) (cl : List (Str × Addr)) (fp : List Addr), PTs (X.blk sz Hz scope (compEnvC scope cl C X.env) fp) ifsz tt)
    (hez : ∀ (sz : Shared) (Hz : Hp) (C : Addr) (cl : List (Str × Addr)) (fp : List Addr), PE (X.blk sz Hz scope (compEnvC scope cl C X.env) fp) eltz te) (hsz : ∀ x, foldedSetIterable iter X.env x = pure x)
    (h : tLc (iList X.K tl) g tt te (own.map (·.2)) σ Hz Qz)
    (hRRz : ∀ D C s' m H', Inv X pins σ H' s' → Qz (.ref D) H' → s'.heap.Ns C m → FpOk X pins H' C → compPost (model X.prog X.w) X.A X.xe use Qfz (.ref D) C (.ok .next) s') :
    wpAny (model X.prog X.w) X.A (comprehension (.ListComp eltz [⟨tg, iter, ifsz, 0⟩] scope pos) scope X.env pos' (newList []) false (eval iter X.env) use) Qfz X.xe sz := by
  obtain ⟨p, hp1, hp⟩ := hc
  have hfreez : ∀ y ∈ scope.names, y.2 = .free → ∃ c, X.env.cells.lookup y.1 = some c := fun y hy e => by
    rcases ok.free y hy e with k | k
    · exact Iz.ok.has _ (.inl k)
    · exact Iz.ok.has _ (.inr k)
  refine wpAny_comprehension_free (use := use) rfl hsz (closure_ok hfreez) ok.kind (fun y hy e => by rw [ok.uniq y hy, e])
    (thn (hi.run pins sz σ Hz _ Iz h) fun xv s1z hxz => ?_)
  obtain ⟨x, H2z, I1z, r1, a, ea, ⟨xs, hq⟩, q⟩ := hxz
  subst ea
  cases r1
  obtain ⟨its, rvz, pl, hz⟩ := I1z.list hq
  have hpy : wpAny (model X.prog X.w) X.A (pyIter (.ref a)) (fun itv s2z => ∃ it, itv = .ref it ∧ Inv X pins σ H2z s2z ∧ s2z.heap.IsListIter it a 0 ∧ FpOk X pins H2z it) X.xe s1z :=
    wpAny_pyIter_list pl.isList ⟨_, rfl, I1z.kept (t' := s1z.toks) fun b o e => Heap.get?_push_of_some _ e, ⟨_, Heap.get?_push_size _ rfl, rfl, rfl⟩, I1z.fpOk (Nat.le_refl _) (I1z.hok.fresh (Nat.le_refl _))⟩
  refine thn hpy fun itv s2z ⟨it, ei, I2z, st2, f2⟩ => ?_
  subst ei
  refine wpAny_newObj_type (newEnv_comp ?_) (by show 0 ≤ sizeLine; decide)
  generalize hDz : s2z.heap.objs.size = D
  have hDnz : H2z D = none := I2z.hok.fresh (Nat.le_of_eq hDz)
  obtain ⟨W, ⟨m0, w0⟩, turnz⟩ := q D hDnz
  -- the list that is made
  generalize hs3z : ({ s2z with heap := s2z.heap.push { cls := .type "list", data := .seq ([] : List Value).toArray } } : Shared) = s3z
  have I3z : Inv X pins σ (upd H2z D (.lst [])) s3z := by
    rw [← hs3z]
    refine I2z.laid (t' := s2z.toks) (fun b o e => Heap.get?_push_of_some _ e) (Nat.le_of_eq hDz) ⟨Nat.zero_le _, [], 0, .nil, ?_⟩
    rw [← hDz]
    exact Heap.get?_push_size _ rfl
  have h3 : s3z.heap = s2z.heap.push { cls := .type "list", data := .seq ([] : List Value).toArray } := by rw [← hs3z]
  have tobj : ∀ {i : Nat} {h : Heap}, h.IsListIter it a i → ∀ b ∈ [it], ∃ o, h.get? b = some o ∧ ∀ v, o.data ≠ .cell v := fun {i h} st b hb => by
    obtain rfl : b = it := by simpa using hb
    obtain ⟨o, e, c, d⟩ := st
    exact ⟨o, e, fun v z => by rw [d] at z; cases z⟩
  have ilt : it < s2z.heap.objs.size := by
    obtain ⟨o, e, _⟩ := id st2
    exact Heap.lt_size e
  have f3 : ∀ b ∈ [it], FpOk X pins (upd H2z D (.lst [])) b ∧ b < s3z.heap.objs.size := fun b hb => by
    obtain rfl : b = it := by simpa using hb
    refine ⟨⟨?_, f2.2⟩, by rw [h3, Heap.size_push]; exact Nat.lt_succ_of_lt ilt⟩
    rw [upd_ne (by rw [← hDz]; exact Nat.ne_of_lt ilt)]
    exact f2.1
  have st3 : s3z.heap.IsListIter it a 0 := st2.at fun o e => by rw [h3]; exact Heap.get?_push_of_some _ e
  have I4z := block_pin I3z ok hN f3 hp
  have pg := hgz s3z (upd H2z D (.lst [])) s3z.heap.objs.size (cellsFrom (s3z.heap.objs.size + 1) scope.names (cloFrom X.env.cells scope.names [])) [it]
  have pt := htz s3z (upd H2z D (.lst [])) s3z.heap.objs.size (cellsFrom (s3z.heap.objs.size + 1) scope.names (cloFrom X.env.cells scope.names [])) [it]
  have pe := hez s3z (upd H2z D (.lst [])) s3z.heap.objs.size (cellsFrom (s3z.heap.objs.size + 1) scope.names (cloFrom X.env.cells scope.names [])) [it]
  show codeAny _ _ (.compStart (.ListComp eltz [⟨tg, iter, ifsz, 0⟩] scope pos) 0 (.ref it) (.ref D) (compEnvC scope (cellsFrom (s3z.heap.objs.size + 1) scope.names (cloFrom X.env.cells scope.names [])) s3z.heap.objs.size X.env)) (compPost (model X.prog X.w) X.A X.xe use Qfz (.ref D) s3z.heap.objs.size) { s3z with heap := pushCells (s3z.heap.push { cls := .type "dict", data := .dict #[] }) scope.names }
  have nfp : (upd H2z D (.lst [])) it = none := (f3 it (by simp)).1.1
  generalize hcez : compEnvC scope (cellsFrom (s3z.heap.objs.size + 1) scope.names (cloFrom X.env.cells scope.names [])) s3z.heap.objs.size X.env = ce at I4z pg pt pe ⊢
  have cL : ce.locals = s3z.heap.objs.size := by subst hcez; rfl
  generalize hH3z : upd H2z D (.lst []) = H3z at I3z I4z pg pt pe w0 nfp f3
  generalize hs4z : ({ s3z with heap := pushCells (s3z.heap.push { cls := .type "dict", data := .dict #[] }) scope.names } : Shared) = s4z at I4z ⊢
  have st4 : s4z.heap.IsListIter it a 0 := st3.at fun o e => by rw [← hs4z]; exact pushCells_keeps _ _ _ _ (Heap.get?_push_of_some _ e)
  have pne : p.1 ≠ it := fun z => by
    obtain ⟨o, e, c, d⟩ := id st4
    have g := (I4z.pin p (by simp)).1
    rw [z, e] at g
    cases g
    obtain ⟨_, vs, dd, cc⟩ := hp1
    rw [d] at dd
    cases dd
    cases cc
  have stat : ∀ {σ' : L2.St} {H' : Hp} {s' : Shared}, Inv (X.blk s3z H3z scope ce [it]) [p] σ' H' s' → H' it = none → FpOk (X.blk s3z H3z scope ce [it]) [p] H' it := fun {σ' H' s'} I' hn =>
    ⟨hn, (I'.ok.exf it (by simp)).1, I'.ok.exfs it (by simp), .inl (by simp), fun x c e => (I'.ok.exf it (by simp)).2 x c e, fun r hr => by
      have e : r = p := by simpa using hr
      rw [e]
      exact pne⟩
  have loop : codeAny (model X.prog X.w) X.A (.compLoop (.ListComp eltz [⟨tg, iter, ifsz, 0⟩] scope pos) 0 (.ref it) (.ref D) ce) (compPost (model X.prog X.w) X.A X.xe use Qfz (.ref D) s3z.heap.objs.size) s4z := by
    refine compLoop_any (fun n s' => ∃ i H', Inv (X.blk s3z H3z scope ce [it]) [p] (wipe σ (own.map (·.2))) H' s' ∧ s'.heap.IsListIter it a i ∧ H' it = none ∧ W i n H') ?_ m0 ⟨0, H3z, I4z, st4, nfp, w0⟩
    rintro n s5z ⟨i, H5z, I5z, st5, n5, w5⟩
    rcases turnz i n H5z w5 with ⟨stopz, qq⟩ | ⟨goz, Nx, hNx, stepz⟩
    · have td := list_done (X := X.blk s3z H3z scope ce [it]) (E := fun _ _ => False) I5z (hot_of hp1 I5z (by simp)) (stat I5z n5) st5 stopz
      refine thnF td fun r s6z ⟨hr, I6z⟩ => ?_
      subst hr
      -- the def's context again
      have I7z : Inv X pins σ H5z s6z := I3z.call' (ch := [it]) I6z.os I6z.base I6z.hok I6z.bare fun b hb => ⟨(f3 b hb).1.2.2.2.1, (f3 b hb).1.2.1, (f3 b hb).1.2.2.2.2.1, (f3 b hb).1.2.2.2.2.2⟩
      have nC : H5z s3z.heap.objs.size = none := by
        have z : H5z ce.locals = none := I6z.free
        rw [cL] at z
        exact z
      obtain ⟨m, hn, _⟩ := I6z.loc
      have hn : s6z.heap.Ns ce.locals m := hn
      rw [cL] at hn
      exact hRRz D s3z.heap.objs.size s6z m H5z I7z qq hn (I3z.fpOk (Nat.le_refl _) nC)
    · have ti := list_item (X := X.blk s3z H3z scope ce [it]) (tg := tg) (E := fun _ _ => False) I5z (stat I5z n5) st5 goz
      refine thnF ti fun r s6z ⟨uz, hr, h6⟩ => ?_
      subst hr
      refine thnF h6 fun _ s7z ⟨x, H7z, I7z, r7, y7, st7, n7⟩ => ?_
      have sf : ∀ b ∈ [it], FpOk (X.blk s3z H3z scope ce [it]) [p] H7z b := fun b hb => by
        have e : b = it := by simpa using hb
        rw [e]
        exact stat I7z n7
      have I7' := I7z.pinned sf (tobj st7)
      refine thnF (pg.run _ s7z _ H7z x uz _ I7' r7 (stepz x H7z y7)) fun _ s8z ⟨σ8, H8z, I8z, hw8, q8⟩ => ?_
      refine thnF (pt.run _ s8z σ8 H8z _ I8z q8) fun b s9z ⟨H9z, I9z, q9z⟩ => ?_
      -- a turnz ends
      have fin : ∀ {s' : Shared} {H' : Hp}, Inv (X.blk s3z H3z scope ce [it]) ([p] ++ pinsAt [it] s7z.heap) σ8 H' s' → Nx H' → ∃ m, m < n ∧ ∃ i H', Inv (X.blk s3z H3z scope ce [it]) [p] (wipe σ (own.map (·.2))) H' s' ∧ s'.heap.IsListIter it a i ∧ H' it = none ∧ W i m H' := fun {s' H'} I' nx => by
        obtain ⟨m', hm, w'⟩ := hNx H' nx
        obtain ⟨o7, e7, _⟩ := tobj st7 it (by simp)
        have pin' := I'.pin (it, o7) (List.mem_append_right _ (List.mem_append_right _ (mem_pinsAt (by simp) e7)))
        have hlz : (wipe σ (own.map (·.2))).length = σ8.length := by rw [← hw8, wipe_length]
        refine ⟨m', hm, i + 1, H', (I'.unpinned (pins := [p])).weak hlz (fun j v e => ?_), st7.at fun o e => ?_, pin'.2.1, w'⟩
        · rw [← hw8] at e
          exact (wipe_some e).1
        · rw [e7] at e
          cases e
          exact pin'.1
      cases b with
      | false =>
        simp only [Bool.false_eq_true, if_false] at q9z ⊢
        exact fin I9z q9z
      | true =>
        simp only [if_true] at q9z ⊢
        refine thnF (pe.run _ s9z σ8 H9z _ I9z q9z) fun z s10z ⟨yv, H10z, I10z, r10, acc, hD10z, hz10z, nx⟩ => ?_
        exact app_ok (X := X.blk s3z H3z scope ce [it]) I10z hD10z hz10z r10 fun s11z I11z => fin I11z nx
  exact codeAny_compStart_list loop (wpAny_pyIter_listiter st4 loop)
/-- as a value -/
theorem pe_lcH {eltz tg iter : Expr} {ifsz : List Expr} {scope : Scope} {own : List (Str × Nat)} {pos : Pos} {tl : TE} {g : TG} {tt : TT} {te : TE} (hc : HotC X) (hN : X.N.Nodup) (hi : PE X iter tl) (ok : BlkOk X.N X.env.scope scope own)
    (hgz : ∀ (sz : Shared) (Hz : Hp) (C : Addr) (cl : List (Str × Addr)) (fp : List Addr), PG (X.blk sz Hz scope (compEnvC scope cl C X.env) fp) tg g) (htz : ∀ (sz : Shared) (Hz : Hp) (C : Addr) (cl : List (Str × Addr)) (fp : List Addr), PTs (X.blk sz Hz scope (compEnvC scope cl C X.env) fp) ifsz tt)
    (hez : ∀ (sz : Shared) (Hz : Hp) (C : Addr) (cl : List (Str × Addr)) (fp : List Addr), PE (X.blk sz Hz scope (compEnvC scope cl C X.env) fp) eltz te) (hsz : ∀ x, foldedSetIterable iter X.env x = pure x := by intro _; rfl) :
    PE X (.ListComp eltz [⟨tg, iter, ifsz, 0⟩] scope pos) (tLc (iList X.K tl) g tt te (own.map (·.2))) := by
  refine ⟨fun pins sz σ Hz Qz Iz h => ?_⟩
  rw [eval_ListComp]
  refine lc_coreH hc hN Iz hi ok hgz htz hez hsz h fun D C s' m H' I' q hn f => ⟨m, hn, fun h'' sb => ?_⟩
  obtain ⟨f0, f1, f2, f3, f4, f5⟩ := f
  exact ⟨.ref D, H', I'.turned (t' := s'.toks) (fun b o hb e => (sb.2 b hb).trans e) f0 f1 f3 f4 f5, rfl, q⟩
end
end Ol

set_option Elab.async false
set_option linter.all false
set_option maxRecDepth 100000
set_option maxHeartbeats 4000000
namespace Ol
open PySem PySem.Spec PyProof.Rows L2 HotX L2H
/-! Own errors with fields whose context is None: made, raised, let out of defs and methods. -/
section
variable {X : Cx} {e : Expr} {es : List Expr} {ta : TA} {p pos : Pos}
theorem mk_endN {pins : List (Addr × Obj)} {σ : L2.St} {H1z H2z : Hp} {Qz : XK} {hp hp2 h2 : Heap} {g1 g2 : Array GenState} {d1z d2 : Drawn} {t1 t2 : Nat} {os1 os2 : OsState} {a C d : Addr} {fs : List (Str × V)} (T : Raises X (.ref C)) (J1 : Inv X pins σ H1z ⟨hp, g1, d1z, t1, os1⟩)
    (ha : hp.objs.size ≤ a) (k : ∀ b o, hp.get? b = some o → hp2.get? b = some o) (un : Un (frs X.stack) [] (upd H1z a (exo a C none)) H2z hp2 h2) (hok : HOk X.prog X.w H2z h2) (hoz : os2 = os1) (hb : AllBare g2) (ea : H2z a = some (exo a C (some d)))
    (ed : H2z d = some (exd d fs)) (hd1 : H1z d = none) (q : Qz (.ref C) (some d) (upd (del H2z a) d (.xd fs))) : L2N.MkP X pins σ Qz (.ref a) ⟨h2, g2, d2, t2, os2⟩ := by
  obtain ⟨t0, G, J, kG, ge, hoe, na⟩ := mk_end0 (d2 := d2) (t2 := t2) J1 ha k un hok hoz hb ea ed hd1
  exact ⟨a, _, _, ⟨G, g2, d2, t2, os2⟩, _, .ref C, some d, rfl, J, kG, ge, hoe, ⟨rfl, rfl, fun vs y => by cases y; rfl⟩, rfl, rfl, na, rfl, hb, T, q⟩
theorem pmk_oexN {CX : CXT} {x : Str} {C fI : Addr} {k : Nat} {fd : FuncData} {ps : List Str} {sp : Sp} {ds : List Value} {dvs : List V} (T : OexC X.K C) (iC : PySem.W.findIn X.K (.ref C) "__init__" = some (some (.ref fI))) (tI : PySem.W.typeIn X.K (.ref fI) = some (.type "function"))
    (F1 : FnOk X.prog X.w X.K X.mg X.base CX k fI fd ps sp) (hr : Room (k + 1) X.A) (hb : Binds X.K fd ps ds) (hd : Vals dvs ds) (hxz : Passes CX X (fun _ _ _ => False)) (hgz : Gl X x) (hm : X.mg x = some (.ref C)) (ha : PA X (e :: es) ta)
    (hdbz : (x == ("__debug__" : Str)) = false := by decide) (hez : starEach (e :: es) X.env = (false, eval e X.env) :: starEach es X.env := by rfl) (hplz : (backTo pos (starEach es X.env)).any (·.1) = false := by rfl) :
    L2N.PMk X (.Call (.Name x p) (e :: es) [] pos) (tMkO C sp dvs ta) := by
  intro pins sz σ Hz Qz Iz h
  obtain ⟨nm, q, N, bs, bm, sn, sub, ab, col, dd, k0, k1, k2, k3, k5, hC, hbm⟩ := T.cls
  refine wpAny_Call_Name_kw (ld_glob Iz hgz hm ?_ hdbz)
  refine PySem.W.callWith_K (h₀ := X.base) Iz.ok.mod.kin T.kC (thn (ha.run pos pins sz σ Hz _ Iz h) fun usz s1z ⟨vs, H1z, J1, r1, hz, q1⟩ => ⟨J1.kIn, ?_⟩) hez hplz
  show wpAny _ _ (call (.ref C) usz) _ _ _
  obtain ⟨hp, g, drz, tk, osz⟩ := s1z
  have sz1 : hp.objs.size ≤ hp.objs.size + 1 := Nat.le_succ _
  have new1 : H1z (hp.objs.size + 1) = none := J1.hok.fresh sz1
  have q0 := q1 (hp.objs.size + 1) new1
  have keep2 : ∀ b o, hp.get? b = some o → ((hp.push (PySem.W.kdv_tup usz)).push (PySem.HandSPX.excO C hp.objs.size)).get? b = some o := fun b o z => Heap.get?_push_of_some _ (Heap.get?_push_of_some _ z)
  have at2 : ((hp.push (PySem.W.kdv_tup usz)).push (PySem.HandSPX.excO C hp.objs.size)).get? (hp.objs.size + 1) = some (PySem.HandSPX.excO C hp.objs.size) := by heap_get
  have J2 : Inv X pins σ (upd H1z (hp.objs.size + 1) (exo (hp.objs.size + 1) C none)) ⟨(hp.push (PySem.W.kdv_tup usz)).push (PySem.HandSPX.excO C hp.objs.size), g, drz, tk, osz⟩ :=
    J1.laid (t' := tk) (a := hp.objs.size + 1) (o := exo (hp.objs.size + 1) C none) (h' := (hp.push (PySem.W.kdv_tup usz)).push (PySem.HandSPX.excO C hp.objs.size)) keep2 sz1 (exo_ok at2)
  have r2 : Vals (V.ref (hp.objs.size + 1) :: (vs ++ dvs)) (Value.ref (hp.objs.size + 1) :: (usz ++ ds)) := .cons rfl (r1.append hd)
  have len2 : (Value.ref (hp.objs.size + 1) :: usz ++ ds).length = ps.length := by
    have y := r2.length
    rw [F1.len _ _ _ _ q0] at y
    exact y.symm
  have few : usz.length ≤ sizeLine := by rw [← Paired.length r1, sizeLine_eq]; omega
  refine wpAny_call (PySem.HandSPX.call_own F.excBase_ValueError (fun Y => PySem.HandSPX.refsVE_contains Y bm hbm) (J1.kIn _ _ hC) (PySem.W.looks_findIn J1.kIn iC) (fun self => PySem.W.bind_fn J1.kIn self tI) few
    (codeAny_mono (F1.run _ X.stack _ _ ⟨Value.ref (hp.objs.size + 1) :: usz, []⟩ (Value.ref (hp.objs.size + 1) :: (usz ++ ds)) _ _ (fun _ _ _ => False) (hr.make C usz []) (J2.env0.make C usz []) (hb _ (Value.ref (hp.objs.size + 1) :: usz) J2.kIn len2) r2 q0) fun r s' z' => ?_))
  cases r with
  | error er => exact hxz pins σ _ _ er s' J2 z'
  | ok fl =>
    cases fl with
    | ret uz =>
      obtain ⟨v, H2z, os2, bare2, un2, hok2, rvz, ev, d, fs, ea, ed, hd1, q2⟩ := z'
      subst ev
      obtain ⟨h2, g2, d2, t2, os'⟩ := s'
      exact ⟨rvz, mk_endN (raises_own T.exC T.tyC) J1 sz1 keep2 un2 hok2 os2 bare2 ea ed hd1 q2⟩
    | next => exact z'.elim
    | brk => exact z'.elim
    | cont => exact z'.elim
theorem passAtN {W : L2.WX} (tk : L2N.Takes X W) (σ : L2.St) : PassesAt (L2N.CX X.prog X.w) X σ (WE W σ) := fun _ _ _ y s' Iz c => tk y s' (L2N.XE.of_call Iz (fun _ _ _ h => h) c)
end
section
variable {P : Program} {w : World} {K : PySem.W.Frag} {mg : Str → Option Value} {base : Heap}
theorem okXN {x qual : Str} {st : Stmt} {f : Addr} {fd : FuncData} {N ps : List Str} {k : Nat} {sp : Sp} (F : Fun K x qual st f fd) (S : FnScope N ps (defScope st)) (lenz : ∀ vs Hz Qz E, sp vs Hz Qz E → vs.length = ps.length)
    (hbodyz : ∀ (cdv : Value) (A : Around) (outer : List Env) (sz : Shared) (Hz : Hp) (vs : List V) (Qz : VK) (E : XK), Room k (A.deeper (envOfC qual (defScope st) sz.heap.objs.size f cdv)) → sp vs Hz Qz E →
      ∃ t, PSs (cxOf (L2N.CX P w) P w K mg base N qual (defScope st) f cdv A outer sz Hz E) (defBody st) t ∧ t { nx := fun _ H' => Qz .non H', rt := Qz } (start N vs) Hz) : FnOk P w K mg base (L2N.CX P w) (k + 1) f fd ps sp := by
  obtain ⟨oc, od, kV, doc, pm, an, cdv, ct, osl, rfl, lkz, hcdz⟩ := F.ex
  exact fn_of lkz hcdz S lenz fun A outer sz Hz vs Qz E hr hsp => hbodyz cdv A outer sz Hz vs Qz E hr hsp
/-- a method that may let such errors out, and its promise -/
structure CmN (P : Program) (w : World) (K : PySem.W.Frag) (mg : Str → Option Value) (base : Heap) (C : Addr) (k : Nat) (m : Str) (ps : List Str) (sp : Sp) : Prop where
  has : ∃ (f : Addr) (fd : FuncData), FnOk P w K mg base (L2N.CX P w) k f fd ps sp ∧ Meth K C m f ∧ Binds K fd ps []
/-- a def that may -/
structure CaN (P : Program) (w : World) (K : PySem.W.Frag) (mg : Str → Option Value) (base : Heap) (k : Nat) (x : Str) (ps : List Str) (sp : Sp) : Prop where
  has : ∃ (f : Addr) (fd : FuncData), FnOk P w K mg base (L2N.CX P w) k f fd ps sp ∧ mg x = some (.ref f) ∧ PySem.W.keepIn K (.ref f) = true ∧ Binds K fd ps []
end
section
variable {X : Cx} {k : Nat} {C : Addr} {ps : List Str} {sp : Sp} {m : Str} {o e : Expr} {es : List Expr} {ta : TE} {t : TA} {apos pos : Pos} {E : L2.St → XK}
theorem pe_cmN {pl : Sem Bool} (M : CmN X.prog X.w X.K X.mg X.base C k m ps sp) (c : Cls X.K C) (hr : Room k X.A) (hxz : ∀ σ, PassesAt (L2N.CX X.prog X.w) X σ (E σ)) (hez : PE X o ta) (ha : PA X (e :: es) t)
    (hstz : starEach (e :: es) X.env = (false, eval e X.env) :: starEach es X.env := by rfl) (hplz : (backTo pos (starEach es X.env)).any (·.1) = false := by rfl)
    (htz : eval (.Call (.Attribute o m apos) (e :: es) [] pos) X.env = (do
      let ov ← eval o X.env
      standAt apos.atName
      let (f, first) ← holding [ov] (getMethod ov m pl)
      callWith pos f first (backTo pos (starEach (e :: es) X.env)) (backToKw pos (keywordEach [] X.env))) := by rfl) :
    PE X (.Call (.Attribute o m apos) (e :: es) [] pos) (tMethX C m sp E ta t) := by
  obtain ⟨f, fd, F, hm, b⟩ := M.has
  refine ⟨fun pins sz σ Hz Qz Iz h => ?_⟩
  refine PySem.W.methodCall_KW (pl := pl) (thn (hez.run pins sz σ Hz _ Iz h) fun uz s1z ⟨x, H1z, I1z, rx, a, dx, fs, ex, ea, l, q⟩ => ?_) htz
  subst ex
  obtain rfl : uz = Value.ref a := rx
  refine getmeth_ok I1z ea c hm l ?_
  refine PySem.W.callWith_K (first := [.ref a]) (h₀ := X.base) Iz.ok.mod.kin hm.kp (thn (ha.run pos pins s1z σ H1z _ I1z q) fun usz s2z ⟨vs, H2z, I2z, r, q2⟩ => ⟨I2z.kIn, ?_⟩) hstz hplz
  exact run_fnS (us := .ref a :: usz) (vs := .ref a :: vs) F hr b (hxz σ) I2z (.cons rfl r) q2
/-- the suite bears the handled exception -/
theorem hot_suite {X : Cx} {a : Addr} {oe : Obj} {cls : Value} {d : Option Addr} {pn : List (Addr × Obj)} (hz : L2N.Zn cls d oe) (hf : ∃ vs, oe.data = .fields vs) : HotC (X.suite a ((a, oe) :: pn)) := by
  obtain ⟨vs, hd⟩ := hf
  exact ⟨(a, oe), ⟨rfl, vs, hd, hz.2.2 vs hd⟩, List.mem_cons_self⟩
end
end Ol

set_option Elab.async false
set_option linter.all false
set_option maxRecDepth 100000
set_option maxHeartbeats 8000000
namespace Ol
open PySem PySem.Spec PyProof.Rows L2
/-- the text of a set's member -/
def txOf (e : Int × Value) : Str := match e.2 with | .str x _ => x | _ => Str.empty
def IsTx (prog : Program) (w : World) (e : Int × Value) : Prop := ∃ x u, e.2 = Value.str x u ∧ e.1 = (PySem.strKind prog w).hash x
/-- the members, each once -/
structure TMem (prog : Program) (w : World) (es : Array (Int × Value)) (S : Str → Bool) (n : Nat) : Prop where
  tx : ∀ e ∈ es.toList, IsTx prog w e
  once : (es.toList.map txOf).Nodup
  mem : ∀ x, S x = true ↔ x ∈ es.toList.map txOf
  few : es.size < scanBound
  cnt : es.size = n
/-- the table: it can be walked -/
structure TTab (w : World) (es : Array (Int × Value)) (t : SetTable) : Prop where
  fits : t.fits es.size = true
  ris : Ris t.place.toList
  led : w.params.followText "set-order" = true ∨ t.led = true
/-- a set of texts that can be walked -/
def TSet (prog : Program) (w : World) (h : Heap) (a : Addr) (S : Str → Bool) (n : Nat) : Prop :=
  ∃ o es ep t, h.get? a = some o ∧ o.ExactSet ∧ o.data = .set es ep t ∧ TMem prog w es S n ∧ TTab w es t
section
variable {prog : Program} {w : World}
theorem TMem.perm {es es2 : Array (Int × Value)} {S : Str → Bool} {n : Nat} (pm : es2.toList.Perm es.toList) (M : TMem prog w es S n) : TMem prog w es2 S n := by
  have sz : es2.size = es.size := by
    have := pm.length_eq
    rw [Array.length_toList, Array.length_toList] at this
    exact this
  constructor
  · intro e me
    exact M.tx e (pm.mem_iff.mp me)
  · exact (pm.map txOf).nodup_iff.mpr M.once
  · intro x
    rw [M.mem x]
    exact (pm.map txOf).mem_iff.symm
  · exact sz ▸ M.few
  · exact sz ▸ M.cnt
theorem IsTx.is_iff {e : Int × Value} (g : IsTx prog w e) (x : Str) : (PySem.strKind prog w).is x e.2 = true ↔ txOf e = x := by
  obtain ⟨y, u, eq, _⟩ := g
  unfold txOf
  rw [eq]
  show Value.isStrOf x (.str y u) = true ↔ y = x
  simp [Value.isStrOf]
theorem TMem.elems {es : Array (Int × Value)} {S : Str → Bool} {n : Nat} (M : TMem prog w es S n) : ElemsOf (PySem.strKind prog w) es.toList := by
  intro e me
  obtain ⟨y, u, eq, hh⟩ := M.tx e me
  refine ⟨⟨y, ?_, hh⟩, ?_⟩
  · rw [eq]; exact PySem.strKind_is _ _ _ _
  · rw [eq]; rfl
theorem TMem.mem_is {es : Array (Int × Value)} {S : Str → Bool} {n : Nat} (M : TMem prog w es S n) (x : Str) : S x = true ↔ ∃ e ∈ es.toList, (PySem.strKind prog w).is x e.2 = true := by
  rw [M.mem x, List.mem_map]
  constructor
  · rintro ⟨e, me, eq⟩
    exact ⟨e, me, ((M.tx e me).is_iff x).mpr eq⟩
  · rintro ⟨e, me, eq⟩
    exact ⟨e, me, ((M.tx e me).is_iff x).mp eq⟩
theorem TSet.old {h h2 : Heap} {a : Addr} {S : Str → Bool} {n : Nat} (keep : ∀ o, h.get? a = some o → h2.get? a = some o) : TSet prog w h a S n → TSet prog w h2 a S n
  | ⟨o, es, ep, t, get, rest⟩ => ⟨o, es, ep, t, keep o get, rest⟩
theorem TSet.same {h : Heap} {a : Addr} {S S2 : Str → Bool} {n n2 : Nat} (T : TSet prog w h a S n) (e : ∀ x, S x = S2 x) (c : n = n2) : TSet prog w h a S2 n2 := by
  obtain rfl : S = S2 := funext e
  exact c ▸ T
variable {A : Around} {E : Value → Shared → Prop} {s : Shared} {a : Addr} {S : Str → Bool} {n : Nat}
theorem tset_tail {g : Bool → Sem Unit} (still : ∀ (b : Bool) (s1 : Shared) (q : Unit → Shared → Prop), q () s1 → wpAny (model prog w) A (g b) q E s1) {o : Obj} {es : Array (Int × Value)} {ep : Nat} {t : SetTable}
    (get : s.heap.get? a = some o) (ex : o.ExactSet) (dat : o.data = .set es ep t) {es1 : Array (Int × Value)} {t1 : SetTable} {S2 : Str → Bool} {m : Nat} (M : TMem prog w es1 S2 m) (T : TTab w es1 t1) {dummy : Bool}
    {R : Option Bool → Shared → Prop} (fin : ∀ h2, Heap.SameBut a s.heap h2 → TSet prog w h2 a S2 m → R (some true) { s with heap := h2 }) :
    wpAny (model prog w) A (do
        storeSet a es1 t1
        if (!dummy && t1.tooFull) = true then do
            g (relayAll t1 es1 (SetTable.grown es1.size)).2.2
            storeSet a (relayAll t1 es1 (SetTable.grown es1.size)).1 (relayAll t1 es1 (SetTable.grown es1.size)).2.1
            pure (some true)
          else pure (some true)) R E s := by
  apply wpAny_bind
  apply wpAny_storeSet_of get dat ?_ (fits_of_scanBound M.few)
  have get1 := store_at (es' := es1) (t' := t1) get dat
  have but1 := Heap.SameBut.update s.heap a (Obj.putSet es1 t1)
  by_cases full : (!dummy && t1.tooFull) = true
  · rw [if_pos full]
    have pm := relayAll_perm t1 es1 (SetTable.grown es1.size)
    have fi := relayAll_fits t1 es1 (SetTable.grown es1.size)
    have ri := relayAll_ris t1 es1 (SetTable.grown es1.size)
    have le := relayAll_led t1 es1 (SetTable.grown es1.size)
    generalize relayAll t1 es1 (SetTable.grown es1.size) = Z at *
    rcases Z with ⟨es2, t2, b⟩
    have M2 := M.perm pm
    apply wpAny_bind
    apply still
    apply wpAny_bind
    apply wpAny_storeSet_of get1 rfl ?_ (fits_of_scanBound M2.few)
    have get2 := store_at (es' := es2) (t' := t2) get1 rfl
    apply wpAny_pure
    refine fin _ (but1.trans (Heap.SameBut.update _ a _)) ⟨_, es2, _, t2, get2, ex, rfl, M2, fi, ri, ?_⟩
    rcases T.led with z | z
    · exact .inl z
    · exact .inr (le.trans z)
  · rw [if_neg full]
    apply wpAny_pure
    exact fin _ but1 ⟨_, es1, _, t1, get1, ex, rfl, M, T⟩
/-- a text is put in -/
theorem tset_add {x : Str} {u : Tok} {Q : Bool → Shared → Prop} (R : TSet prog w s.heap a S n) (room : n + 1 < scanBound)
    (fin : ∀ h2, Heap.SameBut a s.heap h2 → TSet prog w h2 a (fun y => S y || decide (y = x)) (if S x = true then n else n + 1) → Q (!S x) { s with heap := h2 }) :
    wpAny (model prog w) A (setAddHashed a (.str x u) ((PySem.strKind prog w).hash x)) Q E s := by
  obtain ⟨o, es, ep, t, get, ex, dat, M, T⟩ := R
  have it := PySem.strKind_is prog w x u
  have scan : (Value.str x u).scannable = true := rfl
  have els := M.elems
  unfold setAddHashed setAddHashedIn
  apply wpAny_holding
  apply wpAny_bind
  apply wpAny_setState_of get dat T.fits
  dsimp only
  rw [byScan_of scan M.few els]
  simp only [↓reduceIte]
  unfold setAddByScan
  apply wpAny_bind
  apply wpAny_bind
  apply wpAny_rule
  apply wpAny_bind
  apply wpAny_setScan_of it get dat T.fits els
  cases found : List.findIdx? (fun e => (PySem.strKind prog w).is x e.2) es.toList with
  | some j =>
    dsimp only
    obtain ⟨jl, pj, _⟩ := List.findIdx?_eq_some_iff_getElem.mp found
    have yes : S x = true := (M.mem_is x).mpr ⟨es.toList[j], List.getElem_mem jl, pj⟩
    apply wpAny_pure
    apply wpAny_pure
    have z := fin s.heap (Heap.SameBut.refl a s.heap) (TSet.same ⟨o, es, ep, t, get, ex, dat, M, T⟩ (fun y => by by_cases c : y = x <;> simp [c, yes]) (by rw [if_pos yes]))
    rw [yes] at z
    exact z
  | none =>
    dsimp only
    have no : S x = false := by
      cases c : S x with
      | false => rfl
      | true =>
        obtain ⟨e, me, is_⟩ := (M.mem_is x).mp c
        have := List.findIdx?_eq_none_iff.mp found e me
        rw [is_] at this
        cases this
    have out : x ∉ es.toList.map txOf := fun z => by
      rw [(M.mem x).mpr z] at no
      cases no
    have pm := layNew_perm t es ((PySem.strKind prog w).hash x) (.str x u)
    have fi := layNew_fits t es ((PySem.strKind prog w).hash x) (.str x u)
    have ri := layNew_ris t es ((PySem.strKind prog w).hash x) (.str x u) T.ris
    have le := layNew_led t es ((PySem.strKind prog w).hash x) (.str x u)
    generalize layNew t es ((PySem.strKind prog w).hash x) (.str x u) = Z at *
    rcases Z with ⟨es1, t1, dummy, gave⟩
    dsimp only at *
    rw [Array.toList_push] at pm
    have pc := pm.trans (List.perm_append_singleton _ _)
    have pk : (es1.toList.map txOf).Perm (x :: es.toList.map txOf) := pc.map txOf
    have sz : es1.size = n + 1 := by
      have := pc.length_eq
      rw [List.length_cons, Array.length_toList, Array.length_toList, M.cnt] at this
      exact this
    have M1 : TMem prog w es1 (fun y => S y || decide (y = x)) (n + 1) := by
      constructor
      · intro e me
        rcases List.mem_cons.mp (pc.mem_iff.mp me) with rfl | z
        · exact ⟨x, u, rfl, rfl⟩
        · exact M.tx e z
      · exact pk.nodup_iff.mpr (List.nodup_cons.mpr ⟨out, M.once⟩)
      · intro y
        rw [pk.mem_iff, List.mem_cons, ← M.mem y, Bool.or_eq_true, decide_eq_true_eq]
        exact or_comm
      · exact sz ▸ room
      · exact sz
    have lead : w.params.followText "set-order" = true ∨ t1.led = true := by
      rcases T.led with z | z
      · exact .inl z
      · exact .inr (le.trans z)
    have done_ : ∀ h2, Heap.SameBut a s.heap h2 → TSet prog w h2 a (fun y => S y || decide (y = x)) (n + 1) → Q true { s with heap := h2 } := by
      intro h2 but r
      have z := fin h2 but (r.same (fun _ => rfl) (by rw [no]; rfl))
      rw [no] at z
      exact z
    have quiet : ∀ (b : Bool) {s1 : Shared} {q : Unit → Shared → Prop}, q () s1 → wpAny (model prog w) A (match b with | true => rule "set.scan.the-table-gave-way" | false => pure ()) q E s1 := by
      intro b s1 q z
      cases b with
      | true => exact wpAny_rule z
      | false => exact wpAny_pure z
    apply wpAny_bind
    apply quiet
    split
    · apply wpAny_bind
      rw [hashByValue_scannable 8 scan]
      apply wpAny_pure
      refine tset_tail ?_ get ex dat M1 ?_ ?_
      · intro b s1 q z
        cases b with
        | true => exact wpAny_rule z
        | false => exact wpAny_pure z
      · constructor
        · first
            | (split <;> first | exact fi | exact SetTable.fits_plain_off fi)
            | exact fi
        · first
            | (split <;> exact ri)
            | exact ri
        · first
            | (split <;> exact lead)
            | exact lead
      · intro h2 but r
        dsimp only
        exact wpAny_pure (done_ h2 but r)
    · apply wpAny_bind
      apply wpAny_pure
      simp only [↓reduceIte]
      refine tset_tail ?_ get ex dat M1 ⟨fi, ri, lead⟩ ?_
      · intro b s1 q z
        cases b with
        | true => exact wpAny_rule z
        | false => exact wpAny_pure z
      · intro h2 but r
        dsimp only
        exact wpAny_pure (done_ h2 but r)
end
end Ol

set_option Elab.async false
set_option linter.all false
set_option maxRecDepth 100000
set_option maxHeartbeats 16000000
namespace Ol
open PySem PySem.Spec PyProof.Rows L2
theorem text_at : ∀ {us : List Value} {xs : List Str}, StrsAre us xs → ∀ (i : Nat) (v : Value), us[i]? = some v → ∃ u, v = .str (xs.getD i Str.empty) u
  | _, _, .nil, _, _, h => nomatch h
  | _, _, .cons _ t _, 0, _, h => ⟨t, (Option.some.inj h).symm⟩
  | _, _, .cons _ _ r, i + 1, v, h => text_at r i v h
theorem texts_from : ∀ {xs : List Str} {us : List Value}, Vals (xs.map V.str) us → StrsAre us xs
  | [], _, .nil => .nil
  | x :: xs, _, .cons r t => by
    obtain ⟨u, rfl⟩ := r
    exact .cons x u (texts_from t)
section
variable {prog : Program} {w : World} {A : Around} {R : Result → Shared → Prop} {I : Addr} {fp wr : List Addr} {G : Array GenState → Array GenState → Prop} {n : Nat} {P : Nat → Value → Prop} {St : Nat → Shared → Prop}
/-- the set T takes the texts that a walk yields -/
theorem fill_on (W : WalksS prog w A.in1 I fp wr G n P St) {T : Addr} (off : T ∉ fp) {xs : List Str} (room : n + 1 < scanBound) (val : ∀ i v, P i v → ∃ u, v = .str (xs.getD i Str.empty) u) (len : xs.length = n) :
    ∀ (m i c : Nat) (s : Shared), m + i = n → c ≤ i → St i s → TSet prog w s.heap T (fun y => decide (y ∈ xs.take i)) c →
      (∀ s2 c2, Moved (T :: wr) G s s2 → c2 ≤ n → TSet prog w s2.heap T (fun y => decide (y ∈ xs.take n)) c2 → R (.ok (.ret .none)) s2) →
      codeAny (model prog w) A (.builtin "set.update.loop" ⟨[.ref T, .ref I], []⟩) R s := by
  have off2 : T ∉ wr := fun z => off (W.sub _ z)
  have more : ∀ b ∈ wr, b ∈ T :: wr := fun b z => .tail _ z
  have stay : ∀ {s1 s2 : Shared} {S : Str → Bool} {c : Nat}, Moved wr G s1 s2 → TSet prog w s1.heap T S c → TSet prog w s2.heap T S c := fun mv t => t.old fun o get => mv.heap T o off2 get
  intro m
  induction m with
  | zero =>
    intro i c s e le st set go
    obtain rfl : i = n := by omega
    apply codeAny_builtin PyProof.Rows.F.entry_set_update_loop
    rw [Around.under_plainId PyProof.Rows.F.plain_set_update_loop _]
    apply wpAny_bind (m := pyNext (.ref I))
    apply W.done s _ _ st
    intro s2 mv
    exact wpAny_pure (go s2 c (mv.mono more) le (stay mv set))
  | succ m ih =>
    intro i c s e le st set go
    have lt : i < n := by omega
    apply codeAny_builtin PyProof.Rows.F.entry_set_update_loop
    rw [Around.under_plainId PyProof.Rows.F.plain_set_update_loop _]
    apply wpAny_bind (m := pyNext (.ref I))
    apply W.item i s _ _ lt st
    intro v s1 pv st1 mv
    obtain ⟨u, rfl⟩ := val i v pv
    have set1 := stay mv set
    apply wpAny_bind (m := holding [Value.str (xs.getD i Str.empty) u] (setAdd T (.str (xs.getD i Str.empty) u)))
    apply wpAny_holding
    unfold setAdd
    apply wpAny_holding
    apply wpAny_bind
    apply (PySem.strKind prog w).pyHash (k := xs.getD i Str.empty) (PySem.strKind_is _ _ _ _)
    apply tset_add (s := { s1 with toks := s1.toks + 1 }) set1 (by omega)
    intro h2 but set2
    have tk : xs.take (i + 1) = xs.take i ++ [xs.getD i Str.empty] := by
      rw [List.take_add_one, List.getD_eq_getElem?_getD, List.getElem?_eq_getElem (by omega)]
      rfl
    have set3 := set2.same (S2 := fun y => decide (y ∈ xs.take (i + 1))) (fun y => by rw [tk]; by_cases a : y ∈ xs.take i <;> by_cases b : y = xs.getD i Str.empty <;> simp [a, b]) rfl
    apply wpAny_pure
    refine ⟨plainId_quiet PyProof.Rows.F.plain_set_update_loop _, ih (i + 1) _ _ (by omega) (by split <;> omega) (W.frame _ s1 _ _ st1 (Nat.le_succ _) ?_) set3 ?_⟩
    · intro b mb o get
      rw [but.2 b fun z => off (z ▸ mb)]
      exact get
    · intro s2 c2 mv2 le2 set4
      refine go s2 c2 (Moved.trans W.gtrans ((mv.mono more).then_heap (Nat.le_succ _) ?_) mv2) le2 set4
      intro b o nb get
      rw [but.2 b fun z => nb (z ▸ .head _)]
      exact get
end
section
variable {prog : Program} {w : World} {A : Around} {E : Value → Shared → Prop} {s : Shared}
/-- a new set, with its setting -/
theorem new_led (a : Value) {Q : Value → Shared → Prop}
    (q : Q (.ref s.heap.objs.size) { s with heap := s.heap.push { cls := .type "set", dict := none, data := .set #[] 0 (.fresh 0 0 (!w.params.followText "set-order")) } }) :
    codeAny (model prog w) A (.call (.builtin "set.__new__") ⟨[.type "set", a], []⟩) (wants Q E) s := by
  apply codeAny_of_tree
  change wpAny _ A.in1 (checkBuiltinCall "set.__new__" ⟨[.type "set", a], []⟩ >>= fun _ => again (.builtin "set.__new__" ⟨[.type "set", a], []⟩)) _ _ s
  apply wpAny_bind
  apply wpAny_of_eq (PySem.F.newCall_set_1 a)
  apply wpAny_pure
  refine ⟨plainId_quiet PySem.F.plain_set_new _, codeAny_builtin PySem.F.entry_set_new ?_⟩
  rw [Around.under_plainId PySem.F.plain_set_new _]
  unfold Builtin.«set.__new__» Builtin.Frozenset.newClass
  have sub_ := sub_set_self
  rcases s with ⟨hp, g, d, tk, os⟩
  dsimp only
  wp_walk
  apply wpAny_askSetting
  apply wpAny_pure
  dsimp only
  simp only [newObj]
  apply wpAny_bind
  apply wpAny_alloc
  apply wpAny_pure
  exact wpAny_pure q
abbrev bareO (led : Bool) : Obj := { cls := .type "set", dict := none, data := .set #[] 0 (.fresh 0 0 led) }
theorem tset_bare {h : Heap} {a : Addr} (get : h.get? a = some (bareO (!w.params.followText "set-order"))) : TSet prog w h a (fun _ => false) 0 := by
  refine ⟨_, _, _, _, get, ⟨rfl, rfl, rfl⟩, rfl, ?_, ?_⟩
  · constructor
    · intro e me
      simp at me
    · simp
    · intro x
      simp
    · decide
    · rfl
  · constructor
    · rfl
    · exact List.Pairwise.nil
    · cases c : w.params.followText "set-order" with
      | true => exact .inl rfl
      | false => exact .inr rfl
/-- set(xs), xs a list of texts: it can be walked -/
theorem set_walked {l : Addr} {items : Array Value} {xs : List Str} {Q : Value → Shared → Prop} (calm : A.handled = none) (at_l : s.heap.IsList l items) (txt : StrsAre items.toList xs) (few : xs.length + 1 < scanBound)
    (q : ∀ (h' : Heap) (tk c : Nat), c ≤ xs.length → TSet prog w h' s.heap.objs.size (fun y => decide (y ∈ xs)) c →
      (∀ b o, b < s.heap.objs.size → s.heap.get? b = some o → h'.get? b = some o) → Q (.ref s.heap.objs.size) { s with heap := h', toks := tk }) :
    wpAny (model prog w) A (call (.type "set") [.ref l]) Q E s := by
  have len : items.size = xs.length := by have := StrsAre.len_eq txt; rw [Array.length_toList] at this; exact this
  obtain ⟨at_o, at_get, at_cls, at_n, at_data⟩ := id at_l
  have l_lt := Heap.lt_size at_get
  have t0 := PySem.F.called_set
  have t1 := t0.made; have t2 := t0.sub; have t3 := t0.notType; have t4 := t0.canCreate; have t5 := PySem.F.typeCall_set_1 (.ref l)
  obtain ⟨m0, m1, t6⟩ := t0.mro
  apply wpAny_call; apply codeAny_of_tree
  change wpAny _ _ (callAny (.type "set") _) _ _ _
  apply wpAny_pure; refine And.intro (Code.quiet_builtin _ (by decide +kernel)) (codeAny_builtin PySem.F.entry_type_call ?_)
  rw [Around.under_plain (weight_type_call_type "set" [.ref l] []) rfl]
  repeat any_goals first | assumption | wp_step
  -- the new set
  apply codeAny_mono (new_led (.ref l) (E := E) (Q := fun v s1 => v = .ref s.heap.objs.size ∧ s1 = { s with heap := s.heap.push (bareO (!w.params.followText "set-order")) }) ⟨rfl, rfl⟩)
  intro r s1 made
  rcases r with e | f
  · exact made
  cases f with
  | ret v =>
    obtain ⟨rfl, rfl⟩ := made
    have at_S : (s.heap.push (bareO (!w.params.followText "set-order"))).get? s.heap.objs.size = some (bareO (!w.params.followText "set-order")) := Heap.get?_push_size _ rfl
    have ty_S : Shared.TypeIs { s with heap := s.heap.push (bareO (!w.params.followText "set-order")) } (.ref s.heap.objs.size) "set" := ⟨_, at_S, rfl⟩
    have t7 := t0.init.lookup; have t8 := t0.init.bind (.ref s.heap.objs.size)
    repeat any_goals first | assumption | wp_step
    let D : Result → Shared → Prop := wants (fun v s2 => v = .none ∧ ∃ h' tk c, s2 = { s with heap := h', toks := tk } ∧ c ≤ xs.length ∧ TSet prog w h' s.heap.objs.size (fun y => decide (y ∈ xs)) c ∧
      ∀ b o, b < s.heap.objs.size → s.heap.get? b = some o → h'.get? b = some o) E
    apply codeAny_mono (codeAny_call_builtin (R := D) t0.init.plain PySem.F.entry_set_init (check_set_init_1 ty_S ?fills))
    case fills =>
      rcases at_o with ⟨oc, od, dt, sl⟩
      cases at_cls; cases at_data
      have get2 : (s.heap.push (bareO (!w.params.followText "set-order"))).get? l = some { cls := .type "list", dict := od, data := .seq items at_n, slots := sl } := Heap.get?_push_of_some _ at_get
      have lst2 : (s.heap.push (bareO (!w.params.followText "set-order"))).IsList l items := ⟨_, get2, rfl, at_n, rfl⟩
      have n1 := PySem.F.sub_list_set; have n2 := PySem.F.sub_list_frozenset
      have n3 : (Value.type "list" == Value.type "dict") = false := by decide
      unfold Builtin.«set.__init__» noKeywords Builtin.Frozenset.updateFrom
      generalize asks : pyIter = PI
      wp_walk
      subst asks
      apply wpAny_pyIter_list lst2
      apply wpAny_bind; apply wpAny_runValue
      have calm3 : A.in1.in1.in1.handled = none := by simp [calm]
      have grown : (s.heap.push (bareO (!w.params.followText "set-order"))).objs.size = s.heap.objs.size + 1 := Heap.size_push ..
      have ne_l : l ≠ (s.heap.push (bareO (!w.params.followText "set-order"))).objs.size := Nat.ne_of_lt (grown ▸ Nat.lt_succ_of_lt l_lt)
      have out : s.heap.objs.size ∉ [(s.heap.push (bareO (!w.params.followText "set-order"))).objs.size, l] := fun z => by
        rw [grown] at z
        rcases List.mem_cons.mp z with z | z
        · exact Nat.ne_of_lt (Nat.lt_succ_self _) z
        · exact Nat.ne_of_gt l_lt (List.mem_singleton.mp z)
      refine fill_on (Walks.list calm3 _ l ne_l items).toS out (xs := xs) (by omega) (fun i v z => text_at txt i v (by rw [Array.getElem?_toList]; exact z)) len.symm items.size 0 0 _ (by omega) (Nat.le_refl _) ⟨⟨_, Heap.get?_push_size _ rfl, rfl, rfl⟩, lst2.push _⟩ ?start ?stop
      case start =>
        exact (tset_bare (Heap.get?_push_of_some _ at_S)).same (fun y => by simp) rfl
      case stop =>
        rintro ⟨h', gens, drawn, toks, os⟩ c mv le set
        cases (show gens = s.gens from mv.gens)
        cases (show drawn = s.drawn from mv.drawn)
        cases (show os = s.os from mv.os)
        refine wpAny_pure (wpAny_pure ⟨rfl, h', toks, c, rfl, by omega, ?_, ?_⟩)
        · rw [len, List.take_length] at set
          exact set
        · intro b o lt get
          apply mv.heap b o
          · intro z
            rw [grown] at z
            rcases List.mem_cons.mp z with z | z
            · exact Nat.ne_of_lt lt z
            · exact Nat.ne_of_lt (Nat.lt_succ_of_lt lt) (List.mem_singleton.mp z)
          · exact Heap.get?_push_of_some _ (Heap.get?_push_of_some _ get)
    intro r2 s2 filled
    rcases r2 with e | f2
    · exact filled
    cases f2 with
    | ret v2 =>
      obtain ⟨rfl, h', tk, c, rfl, le, set, keep⟩ := filled
      repeat any_goals first | assumption | wp_step
      exact q _ _ c le set keep
    | _ => exact filled.elim
  | _ => exact made.elim
end
end Ol

set_option Elab.async false
set_option linter.all false
set_option maxRecDepth 100000
set_option maxHeartbeats 8000000
namespace Ol
open PySem PySem.Spec PyProof.Rows L2
theorem texts_from_vals {prog : Program} {w : World} : ∀ {vs : List Value}, (∀ v ∈ vs, ∃ x u, v = Value.str x u) → StrsAre vs (vs.map fun v => txOf (0, v))
  | [], _ => .nil
  | v :: vs, h => by
    obtain ⟨x, u, rfl⟩ := h v (.head _)
    exact .cons x u (texts_from_vals (prog := prog) (w := w) fun v2 m => h v2 (.tail _ m))
section
variable {prog : Program} {w : World} {A : Around} {E : Value → Shared → Prop} {s : Shared} {a : Addr} {S : Str → Bool} {n : Nat}
/-- sorted(s) of a set of texts -/
theorem sorted_walked {Q : Value → Shared → Prop} (T : TSet prog w s.heap a S n) (calm : A.handled = none) (few : n < 64)
    (q : ∀ (s2 : Shared) (p : Addr) (out : List Value) (c : Nat) (ys : List Str), (∀ b o, s.heap.get? b = some o → s2.heap.get? b = some o) → s2.gens = s.gens → s2.os = s.os → s.heap.objs.size ≤ p →
      s2.heap.get? p = some (seqObj "list" out.toArray c) → StrsAre out ys → sortedS ys = true → ys.Nodup → (∀ x, x ∈ ys ↔ S x = true) → ys.length = n → Q (.ref p) s2) :
    wpAny (model prog w) A (call (.builtin "sorted") [.ref a]) Q E s := by
  obtain ⟨o, es, ep, t, get, ex, dat, M, TT⟩ := T
  apply Calls.call_function_entry kind_sorted plain_sorted entry_sorted (args_sorted1 _)
  unfold Builtin.«sorted»
  apply wpAny_bind (m := checkCount "sorted" 1 1 _)
  apply wpAny_pure
  apply wpAny_bind
  apply collect_set (A := A.in1) calm ⟨o, get, ex.1, dat⟩ TT.fits M.few TT.ris TT.led
  intro s1 vs keep grow gens os pm
  have lv : vs.length = n := by
    rw [pm.length_eq, List.length_map, Array.length_toList]
    exact M.cnt
  have txt : StrsAre vs (vs.map fun v => txOf (0, v)) := texts_from_vals (prog := prog) (w := w) fun v mv => by
    obtain ⟨e, me, rfl⟩ := List.mem_map.mp (pm.mem_iff.mp mv)
    obtain ⟨x, u, eq, _⟩ := M.tx e me
    exact ⟨x, u, eq⟩
  have pk : (vs.map fun v => txOf (0, v)).Perm (es.toList.map txOf) := by
    have z := pm.map fun v => txOf (0, v)
    rw [List.map_map] at z
    exact z
  apply wpAny_bind
  apply wpAny_newList ?_ (by rw [lv, sizeLine_eq]; omega)
  have at_L : (s1.heap.push (seqObj "list" vs.toArray 0)).get? s1.heap.objs.size = some (seqObj "list" vs.toArray 0) := Heap.get?_push_size _ rfl
  refine wpAny_bind (wpAny_holding (wpAny_call_entry slot_list_sort ⟨_, at_L, rfl⟩ entry_list_sort (list_sort_treeK strKind_oneLt at_L txt.keysOf (fun v1 v2 rest e => keyKind_strs (by rw [← e]; exact txt)) (by rw [lv]; exact few) fun st perm so => ?_) (args_list_sort _)))
  obtain ⟨ys, txt2, pm2, so2⟩ := sorted_out_str txt perm so
  obtain ⟨c, got⟩ := sortedHeap_at (vs := vs) (out := (arrOf st).map (·.2)) at_L
  have pn := pm2.trans pk
  refine ⟨.none, rfl, wpAny_pure ⟨_, rfl, q _ s1.heap.objs.size ((arrOf st).map (·.2)).toList c ys (fun b o2 get2 => ?_) gens os grow (by rw [Array.toArray_toList]; exact got) txt2 so2 (pn.nodup_iff.mpr M.once) (fun x => by rw [pn.mem_iff, ← M.mem x]) ?_⟩⟩
  · have z := keep b o2 get2
    have lt := Heap.lt_size z
    show (sortedHeap (s1.heap.push (seqObj "list" vs.toArray 0)) s1.heap.objs.size vs _).get? b = some o2
    rw [sortedHeap_old (Nat.ne_of_lt lt) (by rw [size_push']; exact Nat.lt_succ_of_lt lt)]
    exact Heap.get?_push_of_some _ z
  · rw [pn.length_eq, List.length_map, Array.length_toList]
    exact M.cnt
end
/-- sorted(set(xs)), xs a list of texts: the different ones, ascending -/
def tSortT (K : PySem.W.Frag) (ta : TE) : TE := fun σ H Q => ta σ H fun x H1 => ∃ (l : Addr) (xs : List Str), x = .ref l ∧ SqL K H1 l (xs.map V.str) ∧ xs.length < 64 ∧
  ∀ (p : Addr) (ys : List Str), H1 p = none → sortedS ys = true → ys.Nodup → (∀ z, z ∈ ys ↔ z ∈ xs) → Q (.ref p) (upd H1 p (.lst (ys.map V.str)))
theorem pe_sortT {X : Cx} {a : Expr} {ta : TE} {p p2 q pos : Pos} (calm : X.calm = true) (gl : Gl X "sorted") (ml : X.mg "sorted" = none) (gs : Gl X "set") (ms : X.mg "set" = none) (pa : PE X a ta)
    (st : starEach [a] X.env = (false, eval a X.env) :: starEach [] X.env := by rfl) : PE X (.Call (.Name "sorted" p) [.Call (.Name "set" p2) [a] [] q] [] pos) (tSortT X.K ta) := by
  constructor
  intro pins s σ H Q I h
  refine Call_ (ld_blt I gl ml boot_sorted (callWith_builtin1 (args_cons ?_ rfl) rfl rfl))
  refine Call_ (ld_blt I gs ms boot_set (callWith_type1 (args_cons (thn (pa.run pins s σ H _ I h) ?_) st) st rfl))
  rintro v s1 ⟨x, H1, I1, rx, l, xs, rfl, sq, few, fin⟩
  refine args_nil ?_
  cases rx
  obtain ⟨its, vals, place, _⟩ := I1.list sq
  refine set_walked (I1.ok.hd calm) place.isList (texts_from vals) (Nat.lt_trans (show xs.length + 1 < 65 by omega) (by decide)) fun h2 tk c le set keep => ?_
  refine args_nil ?_
  have I2 : Inv X pins σ H1 { s1 with heap := h2, toks := tk } := I1.kept fun b o e => keep b o (Heap.lt_size e) e
  have set2 : TSet X.prog X.w ({ s1 with heap := h2, toks := tk } : Shared).heap s1.heap.objs.size (fun y => decide (y ∈ xs)) c := set
  generalize ({ s1 with heap := h2, toks := tk } : Shared) = s2 at I2 set2 ⊢
  refine sorted_walked (s := s2) set2 (I2.ok.hd calm) (by omega) fun s3 p3 out c3 ys keep3 gens os new got txt so nd mem len => ?_
  have free : H1 p3 = none := I2.hok.fresh new
  have small : (ys.map V.str).length ≤ sizeLine := by rw [List.length_map, len, sizeLine_eq]; omega
  have J : Inv X pins σ (upd H1 p3 (.lst (ys.map V.str))) { s2 with heap := s3.heap, gens := s3.gens, drawn := s3.drawn, toks := s3.toks } :=
    I2.call (ch := []) (Un.laid keep3 new free) (I2.hok.laid keep3 new ⟨small, out, c3, vals_of_strs txt, got⟩) (by rw [gens]; exact I2.bare) (fun _ z => nomatch z)
  have same : s3 = { s2 with heap := s3.heap, gens := s3.gens, drawn := s3.drawn, toks := s3.toks } := by
    rcases s3 with ⟨h3, g3, d3, t3, o3⟩
    cases (show o3 = s2.os from os)
    rfl
  rw [same]
  exact ⟨.ref p3, _, J, rfl, fin p3 ys free so nd fun z => by rw [mem z]; simp⟩
end Ol

set_option Elab.async false
set_option linter.all false
set_option maxRecDepth 100000
set_option maxHeartbeats 4000000
namespace Ol
open PySem PySem.Spec PyProof.Rows L2
theorem back_at (n : Nat) : Builtin.Slice.sliceAdjust none none (-1) (n : Int) = ((n : Int) - 1, -1) := by
  unfold Builtin.Slice.sliceAdjust
  simp
theorem back_many (n : Nat) : Builtin.Slice.slicePlaces ((n : Int) - 1) (-1) (-1) = n := by
  unfold Builtin.Slice.slicePlaces
  by_cases c : n = 0
  · subst c
    decide
  · have h1 : ¬ ((-1 : Int) > 0) := by decide
    simp only [h1, if_false]
    split
    · simp only [Int.neg_neg, Int.ediv_one]
      omega
    · omega
theorem back_pick (xs : Array Value) : ((List.range xs.size).filterMap fun (m : Nat) => xs[(((xs.size : Int) - 1) + (m : Int) * (-1)).toNat]?).toArray = xs.toList.reverse.toArray := by
  have e : (List.range xs.size).filterMap (fun (m : Nat) => xs[(((xs.size : Int) - 1) + (m : Int) * (-1)).toNat]?) = ((List.range xs.size).map fun k => xs.size - 1 - k).filterMap (xs[·]?) := by
    have same : (List.range xs.size).map (fun (m : Nat) => (((xs.size : Int) - 1) + (m : Int) * (-1)).toNat) = (List.range xs.size).map fun k => xs.size - 1 - k :=
      List.map_congr_left fun m hm => by
        have hl := List.mem_range.mp hm
        show (((xs.size : Int) - 1) + (m : Int) * (-1)).toNat = xs.size - 1 - m
        omega
    rw [← same, List.filterMap_map]
    rfl
  rw [e, PySem.W.krv_range, List.filterMap_reverse, PySem.W.krv_all]
section
variable {prog : Program} {w : World} {A : Around} {E : Value → Shared → Prop} {s : Shared}
theorem applied_back {sl : Addr} {vl vu vs : Value} {n : Nat} {Q : Int × Int × Nat → Shared → Prop} (sat : s.heap.IsSliceOf sl vl vu vs) (pl : IsPart vl none) (pu : IsPart vu none) (ps : IsPart vs (some (-1)))
    (q : Q ((n : Int) - 1, -1, n) s) : wpAny (model prog w) A (Builtin.Slice.sliceApplied (.ref sl) (pure (n : Int))) Q E s := by
  obtain ⟨so, get, _, dat⟩ := id sat
  unfold Builtin.Slice.sliceApplied Builtin.Slice.sliceFields
  refine wpAny_bind (wpAny_bind (wpAny_field get dat (x := vl) rfl (wpAny_bind (wpAny_field get dat (x := vu) rfl (wpAny_bind (wpAny_field get dat (x := vs) rfl (wpAny_pure ?_)))))))
  refine wpAny_bind (HT.slicePart_ ps ?_)
  show wpAny _ _ (if ((-1 : Int) == 0) = true then _ else _) _ _ s
  rw [if_neg (by decide)]
  refine wpAny_bind (HT.slicePart_ pl (wpAny_bind (HT.slicePart_ pu (wpAny_bind (wpAny_pure ?_)))))
  show wpAny _ _ (match Builtin.Slice.sliceAdjust none none (-1) (n : Int) with | (lo, hi) => pure (lo, (-1 : Int), Builtin.Slice.slicePlaces lo hi (-1))) _ _ s
  rw [back_at]
  show wpAny _ _ (pure (((n : Int) - 1), (-1 : Int), Builtin.Slice.slicePlaces ((n : Int) - 1) (-1) (-1))) _ _ s
  rw [back_many]
  exact wpAny_pure q
/-- t[::-1] -/
theorem item_back {t sl : Addr} {items : Array Value} {vl vu vs : Value} {Q : Value → Shared → Prop} (at_t : IsTup s.heap t items) (sat : s.heap.IsSliceOf sl vl vu vs) (pl : IsPart vl none) (pu : IsPart vu none) (ps : IsPart vs (some (-1)))
    (q : Q (.ref s.heap.objs.size) { s with heap := s.heap.push { cls := .type "tuple", data := .seq items.toList.reverse.toArray } }) (small : items.size ≤ sizeLine) :
    wpAny (model prog w) A (getItem (.ref t) (.ref sl)) Q E s := by
  have fits : sizeOk (.seq items.toList.reverse.toArray) := by
    show items.toList.reverse.toArray.size ≤ sizeLine
    rw [List.size_toArray, List.length_reverse, Array.length_toList]
    exact small
  obtain ⟨so, get, cls, _⟩ := id sat
  have ty : s.TypeIs (.ref sl) "slice" := ⟨so, get, cls⟩
  unfold getItem
  try with_reducible refine wpAny_holding ?_
  first | refine wpAny_bind (wpAny_pure ?_) | skip
  refine wpAny_bind (wpAny_sequenceKey at_t.typeIs (by decide) ?_)
  refine wpAny_bind (wpAny_callSpecial?_slot (name := Str.ofString "__getitem__") at_t.typeIs PyProof.Rows.slot_tuple_getitem
    (wpAny_call_entry PyProof.Rows.slot_tuple_getitem at_t.typeIs entry_tuple_getitem ?_ (args_tuple_getitem _ _)))
  show wpAny _ _ (Builtin.Tuple.tupleItemsOf (.ref t) >>= _) _ _ s
  refine wpAny_bind (tupleItemsOf_ at_t ?_)
  refine wpAny_bind (wpAny_typeOf ty ?_)
  rw [if_pos (by decide)]
  refine wpAny_bind (applied_back sat pl pu ps ?_)
  have other : ¬ ((((items.size : Int) - 1) == 0 && (-1 : Int) == 1 && items.size == items.size) = true) := by
    simp
  show wpAny _ _ (if (((items.size : Int) - 1) == 0 && (-1 : Int) == 1 && items.size == items.size) = true then _ else _) _ _ s
  rw [if_neg other, back_pick]
  first
    | exact wpAny_bind (m := Builtin.Tuple.tupleExact _) (wpAny_newObj_type (wpAny_pure ⟨_, rfl, wpAny_pure q⟩) fits)
    | exact wpAny_bind (m := Builtin.Tuple.tupleExact _) (wpAny_newObj_type (wpAny_bind (wpAny_pure (wpAny_pure ⟨_, rfl, wpAny_pure q⟩))) fits)
    | exact wpAny_bind (wpAny_bind (m := Builtin.Tuple.tupleExact _) (wpAny_newObj_type (wpAny_pure (wpAny_pure ⟨_, rfl, wpAny_pure q⟩)) fits))
    | exact wpAny_bind (wpAny_bind (m := Builtin.Tuple.tupleExact _) (wpAny_newObj_type (wpAny_pure ⟨_, rfl, wpAny_pure q⟩) fits))
end
/-- xs[::-1], xs a tuple: a new one -/
def tRevT (K : PySem.W.Frag) (te : TE) : TE := fun σ H Q => te σ H fun x H1 => ∃ a xs, x = .ref a ∧ SqT K H1 a xs ∧ ∀ p, H1 p = none → Q (.ref p) (upd H1 p (.tup xs.reverse))
theorem pe_revT {X : Cx} {e : Expr} {te : TE} {k : Nat} {p1 p2 p3 pos : Pos} (pe : PE X e te) : PE X (.Subscript e (.Slice none none (some (.UnaryOp .USub (.Constant (.int 1) k p1) p2)) p3) pos) (tRevT X.K te) := by
  constructor
  intro pins s σ H Q I h
  refine Subscript_ (thn (pe.run pins s σ H _ I h) ?_)
  rintro v s1 ⟨x, H1, I1, rx, a, xs, rfl, sq, go⟩
  cases rx
  have step : PO X (some (.UnaryOp .USub (.Constant (.int 1) k p1) p2)) (tPart (tUn (rU fun i => .int (-i)) (tC (.int 1)))) := po_some (pe_un un_neg pe_int)
  refine wpAny_Slice (thn (po_none.run pins s1 σ H1 (fun o H2 => o = none ∧ H2 = H1) I1 ⟨rfl, rfl⟩) ?_)
  rintro vl s2 ⟨_, _, I2, pl, rfl, rfl⟩
  refine thn (po_none.run pins s2 σ _ (fun o H3 => o = none ∧ H3 = _) I2 ⟨rfl, rfl⟩) ?_
  rintro vu s3 ⟨_, _, I3, pu, rfl, rfl⟩
  refine thn (step.run pins s3 σ _ (fun o H4 => o = some (-1) ∧ H4 = _) I3 ⟨1, rfl, -1, rfl, rfl, rfl⟩) ?_
  rintro vs s4 ⟨_, _, I4, ps, rfl, rfl⟩
  have I5 := I4.kept (h' := s4.heap.push { cls := .type "slice", data := .fields #[vl, vu, vs] }) (t' := s4.toks) fun b o z => Heap.get?_push_of_some _ z
  obtain ⟨its, r, at_t, small⟩ := I5.tuple sq
  have len := r.length
  show wpAny (model X.prog X.w) X.A (subscriptTail e (.Slice none none (some (.UnaryOp .USub (.Constant (.int 1) k p1) p2)) p3) (.ref a) (.ref s4.heap.objs.size)) (EP X pins σ Q) X.xe { s4 with heap := s4.heap.push { cls := .type "slice", data := .fields #[vl, vu, vs] } }
  refine tail_any (ops := [.ref a, .ref s4.heap.objs.size]) at_t.typeIs (PyProof.Rows.slot_tuple_getitem.lookup) ?_ (by with_unfolding_all rfl)
  refine item_back at_t (Heap.IsSliceOf.new _ vl vu vs) pl pu ps ?_ (by rw [List.size_toArray]; omega)
  refine ⟨.ref _, _, I5.laid (t' := s4.toks) (o := .tup xs.reverse) (fun b o z => Heap.get?_push_of_some _ z) (Nat.le_refl _) ?_, rfl, go _ (I5.hok.fresh (Nat.le_refl _))⟩
  exact ⟨by rw [List.length_reverse]; exact small, _, r.reverse, IsTup.new _ _⟩
end Ol

set_option Elab.async false
set_option linter.all false
set_option maxRecDepth 100000
set_option maxHeartbeats 4000000
namespace Ol
open PySem PySem.Spec PyProof.Rows L2
/-- a list != [] -/
def rNeE (K : PySem.W.Frag) : R2 := fun x y H Q => ∃ a b xs, x = .ref a ∧ y = .ref b ∧ SqL K H a xs ∧ SqL K H b [] ∧ Q (.bl (!xs.isEmpty)) H
theorem op_neE {X : Cx} {k : Nat} (hr : Room k X.A) : OpR X (compareOp .NotEq) (rNeE X.K) := by
  intro pins s σ H x y v u Q I rx ry h
  obtain ⟨a, b, xs, rfl, rfl, h1, h2, q⟩ := h
  cases rx
  cases ry
  obtain ⟨its, r, pl, hz⟩ := I.list h1
  obtain ⟨its2, r2, pl2, hz2⟩ := I.list h2
  cases r2
  have hu := hr.units
  cases xs with
  | nil =>
    cases r
    exact SeqAt.RcNeAt.lists (e := fun _ => true) pl.isList pl2.isList rfl (by omega) (fun j h => absurd h (Nat.not_lt_zero j)) X.prog X.w _ _ ⟨.bl _, H, I, rfl, q⟩
  | cons x xs =>
    cases r
    exact SeqAt.RcNeAt.lists_lengths pl.isList pl2.isList rfl (by omega) X.prog X.w _ _ ⟨.bl _, H, I, rfl, q⟩
/-- a subscript of a list or of a tuple -/
def rIxA (K : PySem.W.Frag) : R2 := fun x y H Q => rIxL K x y H Q ∨ rIxT K x y H Q
theorem ix_any {X : Cx} : IxR X (rIxA X.K) := ix_list.or ix_tup
/-- a list or a tuple of these stands at a -/
def LT (H : Hp) (a : Addr) (xs : List V) : Prop := H a = some (.lst xs) ∨ H a = some (.tup xs)
theorem LT.up {H H' : Hp} {a : Addr} {xs : List V} (h : LT H a xs) (e : Ext H H') : LT H' a xs := h.imp (fun z => e _ _ z) (fun z => e _ _ z)
theorem LT.sq {K : PySem.W.Frag} {H : Hp} {a : Addr} {xs : List V} (h : LT H a xs) : SqL K H a xs ∨ SqT K H a xs := h.imp SqL.of SqT.of
theorem ixA {K : PySem.W.Frag} {H : Hp} {a : Addr} {xs : List V} {i : Int} {v : V} {Q : VK} (h : LT H a xs) (hi : atI xs i = some v) (q : Q v H) : rIxA K (.ref a) (.int i) H Q := by
  rcases h with h | h
  · exact .inl ⟨a, xs, i, v, rfl, rfl, SqL.of h, hi, q⟩
  · exact .inr ⟨a, xs, i, v, rfl, rfl, SqT.of h, hi, q⟩
/-- for over a list or a tuple -/
def iAny (K : PySem.W.Frag) (te : TE) : TI := fun σ H R => iList K te σ H R ∨ iTup K te σ H R
theorem pi_anyA {X : Cx} {tg l : Expr} {te : TE} (pe : PE X l te) : PI X tg l (iAny X.K te) := by
  constructor
  rintro pins s σ H R I (h | h)
  · exact (pi_list pe).run pins s σ H R I h
  · exact (pi_tup pe).run pins s σ H R I h
end Ol

set_option Elab.async false
set_option linter.all false
set_option maxRecDepth 100000
set_option maxHeartbeats 4000000
namespace Ol
open PySem PySem.Spec PyProof.Rows L2 HotX L2H
section
variable {X : Cx} {k : Nat} {C f : Addr} {ps : List Str} {sp : Sp} {m x : Str} {o e : Expr} {es : List Expr} {ta : TE} {t : TA} {apos pos p : Pos} {E : L2.St → XK} {fd : FuncData} {ds : List Value} {dvs : List V}
/-- a method without arguments that may raise -/
theorem pe_cm0N {pl : Sem Bool} (M : CmN X.prog X.w X.K X.mg X.base C k m ps sp) (c : Cls X.K C) (hr : Room k X.A) (hxz : ∀ σ, PassesAt (L2N.CX X.prog X.w) X σ (E σ)) (hez : PE X o ta)
    (htz : eval (.Call (.Attribute o m apos) [] [] pos) X.env = (do
      let ov ← eval o X.env
      standAt apos.atName
      let (f, first) ← holding [ov] (getMethod ov m pl)
      callWith pos f first (backTo pos (starEach [] X.env)) (backToKw pos (keywordEach [] X.env))) := by rfl) :
    PE X (.Call (.Attribute o m apos) [] [] pos) (tMethX C m sp E ta tNil) := by
  obtain ⟨f, fd, F, hm, b⟩ := M.has
  refine ⟨fun pins sz σ Hz Qz Iz h => ?_⟩
  refine PySem.W.methodCall_KW (pl := pl) (thn (hez.run pins sz σ Hz _ Iz h) fun uz s1z ⟨x, H1z, I1z, rx, a, dx, fs, ex, ea, l, q⟩ => ?_) htz
  subst ex
  obtain rfl : uz = Value.ref a := rx
  refine getmeth_ok I1z ea c hm l ?_
  exact PySem.W.callWith_K0 (first := [.ref a]) I1z.kIn hm.kp (run_fnS (us := [.ref a]) (vs := [.ref a]) F hr b (hxz σ) I1z (.cons rfl .nil) q)
/-- an instance of a class of the text is made, or __init__ raises -/
def tMakeX (C : Addr) (sp : Sp) (dvs : List V) (E : L2.St → XK) (t : TA) : TE := fun σ H Q => t σ H fun vs H1 => ∀ x dx, H1 x = none → H1 dx = none → dx ≠ x →
  sp (.ref x :: (vs ++ dvs)) (upd (upd H1 dx (.own x)) x (.ins C dx [])) (fun v H2 => v = .non ∧ Q (.ref x) H2) (E σ)
theorem pe_makeN (M : Mk X.K C f) (F : FnOk X.prog X.w X.K X.mg X.base (L2N.CX X.prog X.w) k f fd ps sp) (hr : Room (k + 1) X.A) (hg : Gl X x) (hm : X.mg x = some (.ref C)) (hb : Binds X.K fd ps ds) (hd : Vals dvs ds) (hxz : ∀ σ, PassesAt (L2N.CX X.prog X.w) X σ (E σ))
    (ha : PA X (e :: es) t) (hdb : (x == ("__debug__" : Str)) = false := by decide) (he : starEach (e :: es) X.env = (false, eval e X.env) :: starEach es X.env := by rfl) (hpl : (backTo pos (starEach es X.env)).any (·.1) = false := by rfl) :
    PE X (.Call (.Name x p) (e :: es) [] pos) (tMakeX C sp dvs E t) := by
  refine ⟨fun pins s σ H Q I h => ?_⟩
  refine wpAny_Call_Name_kw (ld_glob I hg hm ?_ hdb)
  refine PySem.W.callWith_K (h₀ := X.base) I.ok.mod.kin M.kp (thn (ha.run pos pins s σ H _ I h) fun us s1 ⟨vs, H1, I1, r, q⟩ => ⟨I1.kIn, ?_⟩) he hpl
  have hq := q (s1.heap.objs.size + 1) s1.heap.objs.size (I1.hok.fresh (Nat.le_succ _)) (I1.hok.fresh (Nat.le_refl _)) (Nat.ne_of_lt (Nat.lt_succ_self _))
  have I2 := Inv.made (C := C) I1
  have r2 : Vals (V.ref (s1.heap.objs.size + 1) :: (vs ++ dvs)) (Value.ref (s1.heap.objs.size + 1) :: (us ++ ds)) := .cons rfl (r.append hd)
  have hl : (Value.ref (s1.heap.objs.size + 1) :: us ++ ds).length = ps.length := by
    have e := r2.length
    rw [F.len _ _ _ _ hq] at e
    exact e.symm
  refine wpAny_call (make_map (f := f) I1.kIn M.makes M.init (beq_iff_eq.mp M.fn) (codeAny_mono (F.run _ X.stack _ _ ⟨Value.ref (s1.heap.objs.size + 1) :: us, []⟩ (Value.ref (s1.heap.objs.size + 1) :: (us ++ ds)) _ _ (E σ) (hr.make C us [])
    (I2.env0.make C us []) (hb _ (Value.ref (s1.heap.objs.size + 1) :: us) I2.kIn hl) r2 hq) fun r s' hq' => ?_))
  cases r with
  | error e => exact hxz σ pins _ _ e s' I2 hq'
  | ok fl =>
    cases fl with
    | ret u =>
      obtain ⟨v, H', I3, rv, ev, q3⟩ := I2.after hq'
      subst ev
      exact ⟨rv, ⟨V.ref (s1.heap.objs.size + 1), H', I3, rfl, q3⟩⟩
    | next => exact False.elim hq'
    | brk => exact False.elim hq'
    | cont => exact False.elim hq'
end
end Ol

set_option Elab.async false
set_option linter.all false
set_option maxRecDepth 100000
set_option maxHeartbeats 4000000
namespace Ol
open PySem PySem.Spec PyProof.Rows L2
/-- for x in a list or a tuple -/
theorem for_any {K : PySem.W.Frag} {te : TE} {g : TG} {tb : TS} {D : Ends} {σ : L2.St} {H : Hp} {a : Addr} {xs : List V} (ha : LT H a xs) (ht : ∀ Q : VK, Q (.ref a) H → te σ H Q) (Pv : Nat → L2.St → Hp → Prop) (h0 : Pv 0 σ H)
    (hl : ∀ i σ' H', Pv i σ' H' → ∀ o, H a = some o → H' a = some o)
    (hs : ∀ i x σ' H', xs[i]? = some x → Pv i σ' H' → g x σ' H' fun σ2 H2 => tb { D with nx := Pv (i + 1), ct := Pv (i + 1), bk := D.nx } σ2 H2) (hd : ∀ σ' H', Pv xs.length σ' H' → D.nx σ' H') : tFor (iAny K te) g tb D σ H := by
  rcases ha with ha | ha
  · exact .inl (ht _ ⟨a, rfl, ⟨_, SqL.of ha⟩, for_list (xs := xs) Pv h0 (fun i σ' H' _ p => SqL.of (hl i σ' H' p _ ha)) hs hd⟩)
  · exact .inr (ht _ ⟨a, rfl, ⟨_, SqT.of ha⟩, for_tup (xs := xs) Pv h0 (fun i σ' H' _ p => SqT.of (hl i σ' H' p _ ha)) hs hd⟩)
/-- a comprehension over a list or a tuple -/
theorem lc_any {K : PySem.W.Frag} {tl te : TE} {g : TG} {tt : TT} {vs : List Nat} {σ : L2.St} {H : Hp} {Q : VK} {a : Addr} {xs : List V} (ha : LT H a xs) (ht : ∀ Q : VK, Q (.ref a) H → tl σ H Q)
    (P : Nat → List V → Hp → Prop) (up : ∀ i xs H H', Ext H H' → P i xs H → P i xs H') (h0 : P 0 [] H)
    (hlen : ∀ i xs H, P i xs H → xs.length < sizeLine)
    (hs : ∀ D i x H' ys, H D = none → xs[i]? = some x → Ext H H' → H' D = some (.lst ys) → P i ys (del H' D) →
      ∀ (QY : V → Hp → Prop) (QN : Hp → Prop),
        (∀ y H4, Ext H' H4 → P (i + 1) (ys ++ [y]) (del H4 D) → QY y H4) →
        (∀ H4, Ext H' H4 → P (i + 1) ys (del H4 D) → QN H4) →
        g x (wipe σ vs) H' fun σ2 H2 => wipe σ2 vs = wipe σ vs ∧ tt σ2 H2 fun b H3 => if b = true then te σ2 H3 QY else QN H3)
    (hd : ∀ D H' ys, H D = none → Ext H H' → H' D = some (.lst ys) → P xs.length ys H' → Q (.ref D) H') : tLc (iAny K tl) g tt te vs σ H Q := by
  rcases ha with ha | ha
  · refine .inl (ht _ ⟨a, rfl, ⟨_, SqL.of ha⟩, fun D hD => ?_⟩)
    refine lc1_acc (walk_list (xs := xs)) P up h0 hD hlen (fun H' e => SqL.of (e _ _ ha)) ?_ (fun H' ys e hy p => hd D H' ys hD e hy p)
    rintro i x Hi H' ys hi e hy ⟨rfl, hxi⟩ p QY QN kY kN
    exact hs D i x _ ys hD hxi e hy p QY QN kY kN
  · refine .inr (ht _ ⟨a, rfl, ⟨_, SqT.of ha⟩, fun D hD => ?_⟩)
    refine lc1_acc (walk_tup (xs := xs)) P up h0 hD hlen (fun H' e => SqT.of (e _ _ ha)) ?_ (fun H' ys e hy p => hd D H' ys hD e hy p)
    rintro i x Hi H' ys hi e hy ⟨rfl, hxi⟩ p QY QN kY kN
    exact hs D i x _ ys hD hxi e hy p QY QN kY kN
end Ol

set_option Elab.async false
set_option linter.all false
set_option maxRecDepth 100000
set_option maxHeartbeats 4000000
namespace Ol
open PySem PySem.Spec PyProof.Rows L2
open TL (tl)
/-- a short text nine times -/
def rep9 (z : Str) : Str := ⟨(List.replicate 9 z.cps).foldl (· ++ ·) #[]⟩
theorem tl_rep9 (z : Str) : tl (rep9 z) = tl z ++ tl z ++ tl z ++ tl z ++ tl z ++ tl z ++ tl z ++ tl z ++ tl z := by
  show ((List.replicate 9 z.cps).foldl (· ++ ·) #[]).toList = _
  simp [List.replicate, tl]
theorem rep9_len {z : Str} (h : z.length ≤ 8) : (rep9 z).length ≤ 72 := by
  rw [tlen] at h ⊢
  rw [tl_rep9]
  simp only [List.length_append]
  omega
theorem rep9_mem {z : Str} {c : Nat} (h : c ∈ tl (rep9 z)) : c ∈ tl z := by
  rw [tl_rep9] at h
  simp only [List.mem_append] at h
  rcases h with ((((((((h | h) | h) | h) | h) | h) | h) | h) | h) <;> exact h
def rRep9 : R2 := fun x y H Q => ∃ z : Str, x = .str z ∧ y = .int 9 ∧ 1 ≤ z.length ∧ z.length ≤ 8 ∧ Q (.str (rep9 z)) H
theorem op_rep9 {X : Cx} : OpR X (binaryOp .Mult) rRep9 := by
  intro pins s σ H x y v u Q I rx ry h
  obtain ⟨z, rfl, rfl, h1, h8, q⟩ := h
  obtain ⟨t, rfl⟩ := rx
  obtain ⟨t', rfl⟩ := ry
  have z24 : sizeLine = 16777216 := rfl
  have hl := rep9_len h8
  refine PySem.P.mul_str (by decide) ?_ ?_ ?_
  · intro _ _ h3
    have : ((2 : Int) ^ 63 - 1) / 9 ≥ 8 := by decide
    omega
  · intro _ _
    unfold Builtin.Str.tooLong
    exact decide_eq_false (by show ¬ z.length * 9 > 2 ^ 24; omega)
  · rw [if_neg (by decide)]
    have hf : (((9 : Int) == 1) || z.length == 0) = false := by
      rw [Bool.or_eq_false_iff]
      exact ⟨by decide, beq_eq_false_iff_ne.mpr (by omega)⟩
    rw [hf, if_neg Bool.false_ne_true]
    exact ⟨by show (rep9 z).length ≤ sizeLine; omega, .str _, H, I.tok _, ⟨_, rfl⟩, q⟩
/-- a plain text of some length, shown -/
theorem gd_text (x : Str) (h1 : x.length ≤ 90) (h2 : ∀ c ∈ tl x, c < 128) : Gd 1 (.str x) := by
  refine ⟨by simp [PyData.showable], by simp [PyData.depth], ?_, fun y e => ?_, nopeT rfl⟩
  · simp only [PyData.shown]
    have h := StrLaws.reprText_len x fun c hc => Nat.lt_of_lt_of_le (h2 c hc) (by decide)
    omega
  · cases e
    exact ⟨by omega, h2⟩
end Ol

set_option Elab.async false
set_option linter.all false
set_option maxRecDepth 100000
set_option maxHeartbeats 4000000
namespace K22
open PySem PySem.Spec PyProof.Rows L2 Ol
open TL (tl)
def topS (i : Nat) : Stmt := PySem.Challenge.pw_openlanes_k22_programs_refused.main.body.getD i (.Pass ⟨0, 0, 0, 0⟩)
end K22

set_option Elab.async false
set_option linter.all false
set_option maxRecDepth 100000
set_option maxHeartbeats 4000000
namespace K22
open PySem PySem.Spec PyProof.Rows L2 Ol
open TL (tl)
theorem tyes' {σ : L2.St} {H : Hp} {Q : Bool → Hp → Prop} (h : Q true H) : tYes σ H Q := h
theorem range_getD {α β : Type} (h : α → β) (d : α) : ∀ l : List α, (List.range l.length).map (fun i => h (l.getD i d)) = l.map h
  | [] => rfl
  | a :: l => by
    rw [List.length_cons, List.range_succ_eq_map, List.map_cons, List.map_map, List.map_cons]
    congr 1
    exact range_getD h d l
theorem DqAll_get {H : Hp} : ∀ {xs : List V} {ds : List PyData}, DqAll H xs ds → ∀ (i : Nat) (d : PyData), ds[i]? = some d → ∃ v, xs[i]? = some v ∧ Dq H v d
  | _, _, .nil, i, d, h => by simp at h
  | _, _, .cons a t, 0, d, h => by
    cases h
    exact ⟨_, rfl, a⟩
  | _, _, .cons a t, i + 1, d, h => DqAll_get t i d h
theorem DqAll_set {H : Hp} : ∀ {xs : List V} {ds : List PyData}, DqAll H xs ds → ∀ (i : Nat) (v : V) (d : PyData), Dq H v d → DqAll H (xs.set i v) (ds.set i d)
  | _, _, .nil, i, v, d, h => .nil
  | _, _, .cons a t, 0, v, d, h => .cons h t
  | _, _, .cons a t, i + 1, v, d, h => .cons a (DqAll_set t i v d h)
theorem dec_word {a b : Str} : decide (V.str a = V.str b) = true ↔ a = b := by
  rw [decide_eq_true_eq]
  exact ⟨fun h => by injection h, fun h => by rw [h]⟩
end K22

set_option Elab.async false
set_option linter.all false
set_option maxRecDepth 100000
set_option maxHeartbeats 4000000
namespace K22
open PySem PySem.Spec PyProof.Rows L2 Ol
open TL (tl)
-- a
section
variable {P : Program} {w : World} {K : PySem.W.Frag} {mg : Str → Option Value} {base : Heap}
abbrev s__law_take : Stmt := (topS 25)
theorem sc__law_take : FnScope ["_law_bag_here", "_law_many", "_law_cell", "_law_mixed_here", "_law_value", "_law_begin", "_law_second"] ["_law_bag_here", "_law_many"] (defScope s__law_take) := ⟨rfl, rfl, rfl, by decide +kernel, rfl, by decide +kernel, by decide +kernel⟩

theorem pos_of {j : Int} (h : 0 < j) : 0 < j := h
theorem upd_self {H : Hp} {a : Addr} {o : HO} (h : H a = some o) : upd H a o = H := by
  funext b
  by_cases z : b = a
  · rw [z, upd_same, h]
  · rw [upd_ne z]
theorem ok_take {f : Addr} {fd : FuncData} (F : Fun K "_law_take" "_law_take" s__law_take f fd) (T : BT mg) :
    FnOk P w K mg base CX0 1 f fd ["_law_bag_here", "_law_many"] spTake0 := by
  refine F.ok sc__law_take (fun vs H Q E h => ?_) (fun cdv A outer s H vs Q E hr h => ?_)
  · obtain ⟨a, c, b0, b1, b2, ns, m, rfl, _⟩ := h
    rfl
  · obtain ⟨a, c, b0, b1, b2, ns, m, rfl, ha, hc, hns, bi, hm, hm2, q⟩ := h
    have hca : c ≠ a := by
      intro z
      rw [z, ha] at hc
      have e : bagL b0 b1 b2 c = ns.map V.int := by
        injection hc with hc
        injection hc
      have e3 : (bagL b0 b1 b2 c)[3]? = (ns.map V.int)[3]? := by rw [e]
      rw [List.getElem?_map] at e3
      have e4 : some (V.ref c) = (ns[3]?).map V.int := e3
      cases q3 : ns[3]? with
      | none =>
        rw [q3] at e4
        cases e4
      | some z3 =>
        rw [q3] at e4
        cases e4
    refine cutB (fun σ H' => ∃ x0 x1 x2 v2 v3, BagI x0 x1 x2 ∧ σ = [some (.ref a), some (.int m), v2, v3, none, none, none] ∧ H' = upd H a (.lst (bagL x0 x1 x2 c)))
      ⟨_, (pss_cons (ps_if (pt_cmpR op_gt (pe_ix ix_list (pv 0) pe_int (fun _ _ => rfl)) pe_int (nomark _))
      (pss_cons (ps_set (i := 4) sc__law_take.nd rfl (.inl rfl) (pe_op op_mod (pe_callTy call_int1 (by rfl) T.n_int (by decide +kernel) (pa_cons (pe_ix ix_list (pv 0) pe_int (fun _ _ => rfl)) pa_nil)) (pv 1)))
      (pss_cons (ps_asg (pe_op op_fdiv (pe_ix ix_list (pv 0) pe_int (fun _ _ => rfl)) (pv 1)) (pg_sub (pv 0) pe_int set_list))
      (pss_one (ps_ret (pv 4)))))
      pss_nil)
    (pss_cons (ps_set (i := 5) sc__law_take.nd rfl (.inl rfl) (pe_op op_mod (pe_callTy call_int1 (by rfl) T.n_int (by decide +kernel) (pa_cons (pe_op op_mul (pe_op op_add (pe_ix ix_list (pv 0) pe_int (fun _ _ => rfl)) pe_int) pe_int) pa_nil)) pe_int))
    (pss_cons (ps_set (i := 6) sc__law_take.nd rfl (.inl rfl) (pe_op op_mod (pe_callTy call_int1 (by rfl) T.n_int (by decide +kernel) (pa_cons (pe_op op_mul (pe_op op_mod (pe_callTy call_int1 (by rfl) T.n_int (by decide +kernel) (pa_cons (pe_op op_mul (pv 5) (pv 5)) pa_nil)) pe_int) pe_int) pa_nil)) pe_int))
    (pss_cons (ps_if (pt_cmpR op_gt (pv 1) pe_int (nomark _))
      (pss_one (ps_ret (pe_op op_mod (pe_callTy call_int1 (by rfl) T.n_int (by decide +kernel) (pa_cons (pe_op op_add (pe_op op_mul (pv 6) pe_int) (pv 5)) pa_nil)) (pv 1))))
      pss_nil)
    (pss_one (ps_ret (pe_op op_mod (pe_callTy call_int1 (by rfl) T.n_int (by decide +kernel) (pa_cons (pe_op op_fdiv (pv 6) pe_int) pa_nil)) (pv 1)))))))), ?_⟩
      ⟨_, (ps_if (pt_cmpR op_eq (pe_ix ix_list (pv 0) pe_int (fun _ _ => rfl)) pe_int (nomark _))
      (pss_cons (ps_set (i := 2) sc__law_take.nd rfl (.inl rfl) pe_int)
      (pss_cons (ps_if (pt_cmpR op_lt (pe_ix ix_list (pv 0) pe_int (fun _ _ => rfl)) (pe_callB call_len_seq (by rfl) T.n_len (by decide +kernel) (pa_cons (pe_ix ix_list (pv 0) pe_int (fun _ _ => rfl)) pa_nil)) (nomark _))
        (pss_one (ps_set (i := 2) sc__law_take.nd rfl (.inl rfl) (pe_ix ix_list (pe_ix ix_list (pv 0) pe_int (fun _ _ => rfl)) (pe_ix ix_list (pv 0) pe_int (fun _ _ => rfl)) (fun _ _ => rfl))))
        pss_nil)
      (pss_cons (ps_augS (pv 0) pe_int get_list pe_int ip_add set_list)
      (pss_cons (ps_if (pt_cmpR op_ge (pv 2) pe_int (nomark _))
        (pss_one (ps_asg (pv 2) (pg_sub (pv 0) pe_int set_list)))
        pss_nil)
      (pss_cons (ps_set (i := 3) sc__law_take.nd rfl (.inl rfl) (pe_op op_add (pe_op op_add (pe_op op_mul (pe_ix ix_list (pv 0) pe_int (fun _ _ => rfl)) pe_int) (pe_op op_mod (pe_callTy call_int1 (by rfl) T.n_int (by decide +kernel) (pa_cons (pv 2) pa_nil)) pe_int)) (pe_op op_mul pe_int (pe_ix ix_list (pv 0) pe_int (fun _ _ => rfl)))))
      (pss_one (ps_asg (pe_op op_mod (pe_callTy call_int1 (by rfl) T.n_int (by decide +kernel) (pa_cons (pv 3) pa_nil)) pe_int) (pg_sub (pv 0) pe_int set_list))))))))
      pss_nil), fun nx hn => ?_⟩
    · rintro σ H' ⟨x0, x1, x2, v2, v3, xi, rfl, rfl⟩
      have hL : SqL K (upd H a (.lst (bagL x0 x1 x2 c))) a (bagL x0 x1 x2 c) := SqL.of upd_same
      have p0 := xi.h0
      have p1 := xi.h1
      have p1' := xi.h1'
      -- if bag[0] > 0
      refine ⟨_, rfl, a, _, _, _, rfl, rfl, hL, rfl, _, _, rfl, rfl, _, rfl, ?_⟩
      refine ite2 (fun h0 => ?_) (fun h0 => ?_)
      · refine ⟨_, rfl, a, _, _, _, rfl, rfl, hL, rfl, .inl ⟨_, rfl, _, rfl, _, _, rfl, rfl, hm, ?_⟩⟩
        refine ⟨_, rfl, a, _, _, _, rfl, rfl, hL, rfl, _, rfl, _, _, rfl, rfl, ⟨hm, hm2⟩, _, rfl, a, _, _, 0, rfl, rfl, upd_same, rfl, ?_⟩
        refine ⟨_, rfl, ?_⟩
        have z := q (x0 % m) (x0 / m) x1 x2 (Int.emod_nonneg _ (by omega)) (Int.emod_lt_of_pos _ hm) ⟨Int.ediv_nonneg p0 (by omega), xi.h1, xi.h1', xi.h2⟩
        have e : upd (upd H a (.lst (bagL x0 x1 x2 c))) a (.lst ((bagL x0 x1 x2 c).set 0 (.int (x0 / m)))) = upd H a (.lst (bagL (x0 / m) x1 x2 c)) := upd_upd
        rw [e]
        exact z
      · -- begin, second
        refine ⟨_, rfl, a, _, _, _, rfl, rfl, hL, rfl, _, _, rfl, rfl, _, _, rfl, rfl, .inl ⟨by omega, by omega⟩, .inl ⟨_, rfl, _, _, rfl, rfl, pos_of (by decide), ?_⟩⟩
        have g1 : 0 ≤ ((x1 + 1) * 39373) % 1000000007 := Int.emod_nonneg _ (by decide)
        have g2 : ((x1 + 1) * 39373) % 1000000007 < 1000000007 := Int.emod_lt_of_pos _ (by decide)
        generalize ((x1 + 1) * 39373) % 1000000007 = bg at g1 g2 ⊢
        refine ⟨_, rfl, _, rfl, _, _, rfl, rfl, .inl ⟨by omega, by omega⟩, .inl ⟨_, rfl, _, _, rfl, rfl, pos_of (by decide), ?_⟩⟩
        have g3 : 0 ≤ (bg * bg) % 998244353 := Int.emod_nonneg _ (by decide)
        have g4 : (bg * bg) % 998244353 < 998244353 := Int.emod_lt_of_pos _ (by decide)
        generalize (bg * bg) % 998244353 = sq at g3 g4 ⊢
        refine ⟨_, _, rfl, rfl, .inl ⟨by omega, by omega⟩, .inl ⟨_, rfl, _, _, rfl, rfl, pos_of (by decide), ?_⟩⟩
        have g5 : 0 ≤ (sq * 30011) % 998244353 := Int.emod_nonneg _ (by decide)
        have g6 : (sq * 30011) % 998244353 < 998244353 := Int.emod_lt_of_pos _ (by decide)
        generalize (sq * 30011) % 998244353 = sc at g5 g6 ⊢
        refine ⟨_, rfl, _, _, rfl, rfl, _, rfl, ?_⟩
        refine ite2 (fun h1 => ?_) (fun h1 => ?_)
        · refine ⟨_, rfl, _, _, rfl, rfl, .inl ⟨by omega, by omega⟩, _, rfl, _, _, rfl, rfl, .inl ⟨_, rfl, _, rfl, _, _, rfl, rfl, hm, ?_⟩⟩
          exact q _ x0 x1 x2 (Int.emod_nonneg _ (by omega)) (Int.emod_lt_of_pos _ hm) xi
        · refine ⟨_, rfl, _, _, rfl, rfl, ⟨by decide, by decide⟩, .inl ⟨_, rfl, _, rfl, _, _, rfl, rfl, hm, ?_⟩⟩
          exact q _ x0 x1 x2 (Int.emod_nonneg _ (by omega)) (Int.emod_lt_of_pos _ hm) xi
    · -- the cell
      have sa : SqL K H a (bagL b0 b1 b2 c) := SqL.of ha
      have p1 := bi.h1
      have p1' := bi.h1'
      have p2 := bi.h2
      refine ⟨_, rfl, a, _, _, _, rfl, rfl, sa, rfl, rfl, _, rfl, ?_⟩
      refine ite2 (fun h0 => ?_) (fun h0 => ?_)
      · refine ⟨_, rfl, a, _, _, _, rfl, rfl, sa, rfl, _, rfl, a, _, _, _, rfl, rfl, sa, rfl, c, _, rfl, .inl (SqL.of hc), _, _, rfl, rfl, _, rfl, ?_⟩
        refine ite2 (fun h1 => ?_) (fun h1 => ?_)
        · have h1' : b2 < (ns.length : Int) := by
            have z := of_decide_eq_true h1
            rwa [List.length_map] at z
          obtain ⟨j, ej⟩ : ∃ j : Nat, b2 = (j : Int) := ⟨b2.toNat, by omega⟩
          have hj : j < ns.length := by omega
          have hz : 0 ≤ ns[j] := hns _ (List.getElem_mem hj)
          refine ⟨_, rfl, a, _, _, _, rfl, rfl, sa, rfl, _, rfl, a, _, _, _, rfl, rfl, sa, rfl, c, _, _, V.int ns[j], rfl, rfl, SqL.of hc, at_of (j := j) ej (by rw [List.getElem?_map, List.getElem?_eq_getElem hj]; rfl), ?_⟩
          refine ⟨_, rfl, a, _, 2, _, rfl, rfl, sa, rfl, _, _, rfl, rfl, a, _, _, 2, rfl, rfl, ha, rfl, ?_⟩
          refine ⟨_, rfl, _, _, rfl, rfl, _, rfl, ?_⟩
          refine ite2 (fun h2 => ?_) (fun h2 => ?_)
          · refine ⟨_, rfl, _, rfl, a, _, _, 0, rfl, rfl, upd_same, rfl, ?_⟩
            refine ⟨_, rfl, a, _, _, _, rfl, rfl, SqL.of upd_same, rfl, _, _, rfl, rfl, .inl ⟨by omega, by omega⟩, _, rfl, .inl ⟨_, rfl, _, _, rfl, rfl, pos_of (by decide), _, _, rfl, rfl, _, rfl, a, _, _, _, rfl, rfl, SqL.of upd_same, rfl, _, _, rfl, rfl, .inl ⟨by decide, by decide⟩, _, _, rfl, rfl, ?_⟩⟩
            refine ⟨_, rfl, .inl ⟨_, rfl, _, _, rfl, rfl, pos_of (by decide), _, rfl, a, _, _, 1, rfl, rfl, upd_same, rfl, ?_⟩⟩
            exact hn _ _ ⟨_, _, b2 + 1, _, _, ⟨hz, Int.emod_nonneg _ (by decide), Int.emod_lt_of_pos _ (by decide), by omega⟩, rfl, by rw [upd_upd, upd_upd]; rfl⟩
          · refine ⟨_, rfl, a, _, _, _, rfl, rfl, SqL.of upd_same, rfl, _, _, rfl, rfl, .inl ⟨by omega, by omega⟩, _, rfl, .inl ⟨_, rfl, _, _, rfl, rfl, pos_of (by decide), _, _, rfl, rfl, _, rfl, a, _, _, _, rfl, rfl, SqL.of upd_same, rfl, _, _, rfl, rfl, .inl ⟨by decide, by decide⟩, _, _, rfl, rfl, ?_⟩⟩
            refine ⟨_, rfl, .inl ⟨_, rfl, _, _, rfl, rfl, pos_of (by decide), _, rfl, a, _, _, 1, rfl, rfl, upd_same, rfl, ?_⟩⟩
            exact hn _ _ ⟨_, _, b2 + 1, _, _, ⟨bi.h0, Int.emod_nonneg _ (by decide), Int.emod_lt_of_pos _ (by decide), by omega⟩, rfl, by rw [upd_upd]; rfl⟩
        · refine ⟨_, rfl, a, _, 2, _, rfl, rfl, sa, rfl, _, _, rfl, rfl, a, _, _, 2, rfl, rfl, ha, rfl, ?_⟩
          refine ⟨_, rfl, _, _, rfl, rfl, _, rfl, ?_⟩
          refine ite2 (fun h2 => ?_) (fun h2 => ?_)
          · exact absurd (of_decide_eq_true h2) (by decide)
          · refine ⟨_, rfl, a, _, _, _, rfl, rfl, SqL.of upd_same, rfl, _, _, rfl, rfl, .inl ⟨by omega, by omega⟩, _, rfl, .inl ⟨_, rfl, _, _, rfl, rfl, pos_of (by decide), _, _, rfl, rfl, _, rfl, a, _, _, _, rfl, rfl, SqL.of upd_same, rfl, _, _, rfl, rfl, .inl ⟨by decide, by decide⟩, _, _, rfl, rfl, ?_⟩⟩
            refine ⟨_, rfl, .inl ⟨_, rfl, _, _, rfl, rfl, pos_of (by decide), _, rfl, a, _, _, 1, rfl, rfl, upd_same, rfl, ?_⟩⟩
            exact hn _ _ ⟨_, _, b2 + 1, _, _, ⟨bi.h0, Int.emod_nonneg _ (by decide), Int.emod_lt_of_pos _ (by decide), by omega⟩, rfl, by rw [upd_upd]; rfl⟩
      · exact hn _ _ ⟨b0, b1, b2, none, none, bi, rfl, (upd_self ha).symm⟩
end

-- b
section
variable {P : Program} {w : World} {K : PySem.W.Frag} {mg : Str → Option Value} {base : Heap}

abbrev s_is_integer : Stmt := (topS 12)
theorem sc_is_integer : FnScope ["thing"] ["thing"] (defScope s_is_integer) := ⟨rfl, rfl, rfl, by decide +kernel, rfl, by decide +kernel, by decide +kernel⟩
theorem ok_is_integer {f : Addr} {fd : FuncData} (F : Fun K "is_integer" "is_integer" s_is_integer f fd) (T : BT mg) :
    FnOk P w K mg base CX0 1 f fd ["thing"] (spPred Any isIntD) := by
  refine F.ok sc_is_integer (fun vs H Q E h => ?_) (fun cdv A outer s H vs Q E hr h => ?_)
  · obtain ⟨v, d, rfl, _⟩ := h
    rfl
  · obtain ⟨v, d, rfl, hd, hz, q⟩ := h
    have q' := q H (Ext.refl H)
    rw [isIntD_eq] at q'
    refine ⟨_, (pss_one (ps_ret (pe_and (pe_callB call_isi (by rfl) T.n_isinstance (by decide +kernel) (pa_cons (pv 0) (pa_cons (pe_bltn (v := .ty "int") (by rfl) T.n_int (by decide +kernel) rfl) pa_nil))) (pe_one (pe_not (pe_callB call_isi (by rfl) T.n_isinstance (by decide +kernel) (pa_cons (pv 0) (pa_cons (pe_bltn (v := .ty "bool") (by rfl) T.n_bool (by decide +kernel) rfl) pa_nil)))))))), ?_⟩
    refine ⟨_, rfl, _, _, _, _, _, rfl, .ty "int", ty_of hd, ki_int d, _, rfl, ?_⟩
    refine ite2 (fun h => ?_) (fun h => ?_)
    · refine ⟨_, rfl, _, _, _, _, _, rfl, .ty "bool", ty_of hd, ki_bool d, _, rfl, ?_⟩
      rw [h, Bool.true_and] at q'
      exact q'
    · rw [Bool.eq_false_iff.mpr h, Bool.false_and] at q'
      exact q'

abbrev s_is_number : Stmt := (topS 13)
theorem sc_is_number : FnScope ["thing"] ["thing"] (defScope s_is_number) := ⟨rfl, rfl, rfl, by decide +kernel, rfl, by decide +kernel, by decide +kernel⟩
theorem ok_is_number {f : Addr} {fd : FuncData} (F : Fun K "is_number" "is_number" s_is_number f fd) (C1 : Ca P w K mg base 1 "is_integer" ["thing"] (spPred Any isIntD)) :
    FnOk P w K mg base CX0 2 f fd ["thing"] (spPred Any isNumD) := by
  refine F.ok sc_is_number (fun vs H Q E h => ?_) (fun cdv A outer s H vs Q E hr h => ?_)
  · obtain ⟨v, d, rfl, _⟩ := h
    rfl
  · obtain ⟨v, d, rfl, hd, hz, q⟩ := h
    refine ⟨_, (pss_one (ps_ret (pe_and (pe_ca C1 (hr.mono (by decide)) (by rfl) (pa_cons (pv 0) pa_nil)) (pe_one (pe_cmpR op_ge (pv 0) pe_int (nomark _)))))), ?_⟩
    refine ⟨_, rfl, v, d, rfl, hd, trivial, fun H1 e1 => ⟨_, rfl, ?_⟩⟩
    refine ite2 (fun h => ?_) (fun h => ?_)
    · obtain ⟨i, rfl, rfl⟩ := dq_int hd h
      refine ⟨_, rfl, _, _, rfl, rfl, ?_⟩
      exact q H1 e1
    · have e : isNumD d = false := by
        cases d with
        | int i => exact absurd rfl h
        | _ => rfl
      have q' := q H1 e1
      rw [e] at q'
      exact q'

abbrev s_is_name : Stmt := (topS 14)
theorem sc_is_name : FnScope ["thing", "letter"] ["thing"] (defScope s_is_name) := ⟨rfl, rfl, rfl, by decide +kernel, rfl, by decide +kernel, by decide +kernel⟩
theorem ok_is_name {f : Addr} {fd : FuncData} (F : Fun K "is_name" "is_name" s_is_name f fd) (T : BT mg) {tl : Tok} {tn : Tok} (gLet : mg "LETTERS" = some (.str abc tl)) (gLong : mg "LONGEST" = some (.int 8 tn)) :
    FnOk P w K mg base CX0 1 f fd ["thing"] (spPred Ok1 isNameD) := by
  refine F.ok sc_is_name (fun vs H Q E h => ?_) (fun cdv A outer s H vs Q E hr h => ?_)
  · obtain ⟨v, d, rfl, _⟩ := h
    rfl
  · obtain ⟨v, d, rfl, hd, hz, q⟩ := h
    refine ⟨_, (pss_cons (ps_if (PW.pt (pw_or (pt_not (pt_val (pe_callB call_isi (by rfl) T.n_isinstance (by decide +kernel) (pa_cons (pv 0) (pa_cons (pe_bltn (v := .ty "str") (by rfl) T.n_str (by decide +kernel) rfl) pa_nil))))) (pw_or1 (pt_not (pt_chain op_le op_le pe_int (pe_callB call_len_str (by rfl) T.n_len (by decide +kernel) (pa_cons (pv 0) pa_nil)) (pe_glob (v := .int 8) rfl gLong ⟨_, rfl⟩))))))
      (pss_one (ps_ret pe_bl))
      pss_nil)
    (pss_one (ps_ret (pe_callB (cr_all rfl) (by rfl) T.n_all (by decide +kernel) (pa_cons (pe_lc (own := [("letter", 1)]) (g := gName 1) (tt := tYes) rfl sc_is_name.nd (pi_str (pv 0)) (blkOk_by (N := ["thing", "letter"]) (sc := defScope s_is_name) (by decide +kernel)) (fun _ _ _ _ _ => (pg_name (i := 1) sc_is_name.nd rfl (.inl rfl))) (fun _ _ _ _ _ => pts_nil) (fun _ _ _ _ _ => (pe_cmpR op_in_sign (pv 1) (pe_glob (v := .str abc) rfl gLet ⟨_, rfl⟩) (by rfl)))) pa_nil))))), ?_⟩
    refine ⟨_, rfl, _, _, _, _, _, rfl, .ty "str", ty_of hd, ki_str d, _, rfl, ?_⟩
    refine ite2 (fun h => ?_) (fun h => ?_)
    · have q' := q H (Ext.refl H)
      rw [kS_not h] at q'
      exact iteT q'
    · obtain ⟨x, rfl, rfl⟩ := dq_str hd (kS_yes h)
      have hx : x.length ≤ 1000 := (hz x rfl).1
      have hx2 : x.length ≤ sizeLine := Nat.le_trans hx (by decide)
      have qx : Q (.bl (isNameS x)) H := q H (Ext.refl H)
      refine ⟨_, rfl, _, rfl, hx2, _, _, rfl, rfl, _, rfl, ?_⟩
      refine ite2 (fun h1 => ?_) (fun h1 => ?_)
      · refine ⟨_, _, rfl, rfl, _, rfl, ?_⟩
        have h1' : (1 : Int) ≤ (x.length : Int) := of_decide_eq_true h1
        refine ite2 (fun h2 => ?_) (fun h2 => ?_)
        · have h2' : ¬ (x.length : Int) ≤ 8 := by simpa using h2
          rw [isNameS_short (by omega)] at qx
          exact qx
        · have h2' : (x.length : Int) ≤ 8 := by simpa using h2
          rw [isNameS_long (by omega)] at qx
          refine ⟨_, rfl, x, rfl, fun D hD => ?_⟩
          refine lc_det walk_str (sg x) (fun _ => true) (fun i => V.bl (decide (x.cps.toList.getD i 0 ∈ abc.cps.toList))) hD hx2 its_sg (fun _ _ => trivial)
            (fun i H' _ _ Q' q' => q') (fun i H' _ _ _ Q' q' => ⟨_, rfl, _, abc, rfl, rfl, q'⟩) ?_
          rw [signs_all x fun c => decide (c ∈ abc.cps.toList)]
          refine ⟨D, _, rfl, SqL.of upd_same, ?_⟩
          rw [all_id_map]
          have q2 := q (upd H D (.lst ((x.cps.toList.map fun c => decide (c ∈ abc.cps.toList)).map V.bl))) (Ext.new hD)
          have e2 : isNameD (.str x) = x.cps.toList.all fun c => decide (c ∈ abc.cps.toList) := isNameS_long (by omega)
          rw [e2] at q2
          exact q2
      · have h1' : ¬ (1 : Int) ≤ (x.length : Int) := by simpa using h1
        rw [isNameS_short (by omega)] at qx
        exact ⟨_, rfl, iteT qx⟩
end

-- d
section
variable {P : Program} {w : World} {K : PySem.W.Frag} {mg : Str → Option Value} {base : Heap}
abbrev s__law_names : Stmt := (topS 27)
theorem sc__law_names : FnScope ["_law_bag_here", "_law_many", "_law_letters", "_law_words", "_law_style", "_law_turn", "_law_base", "_law_at", "_law_k"] ["_law_bag_here", "_law_many"] (defScope s__law_names) := ⟨rfl, rfl, rfl, by decide +kernel, rfl, by decide +kernel, by decide +kernel⟩
theorem ok_names {f : Addr} {fd : FuncData} (F : Fun K "_law_names" "_law_names" s__law_names f fd) (T : BT mg)
    (CT : Ca P w K mg base 1 "_law_take" ["_law_bag_here", "_law_many"] spTake) :
    FnOk P w K mg base CX0 2 f fd ["_law_bag_here", "_law_many"] spNames := by
  refine F.ok sc__law_names (fun vs H Q E h => ?_) (fun cdv A outer s H vs Q E hr h => ?_)
  · obtain ⟨a, m, rfl, _⟩ := h
    rfl
  · obtain ⟨a, m, rfl, hb, hm1, hm8, q⟩ := h
    refine ⟨_, (pss_cons (ps_set (i := 2) sc__law_names.nd rfl (.inr rfl) pe_str)
    (pss_cons (ps_set (i := 3) sc__law_names.nd rfl (.inl rfl) pe_str)
    (pss_cons (ps_set (i := 3) sc__law_names.nd rfl (.inl rfl) (pe_split (pe_op op_add_str (pv 3) pe_str) pe_str))
    (pss_cons (ps_asg (pe_tup (pa_cons (pe_ca CT (hr.mono (by decide)) (by rfl) (pa_cons (pv 0) (pa_cons pe_int pa_nil))) (pa_cons (pe_ca CT (hr.mono (by decide)) (by rfl) (pa_cons (pv 0) (pa_cons pe_int pa_nil))) pa_nil))) (pg_tup (by rfl) (pgs_cons (pg_name (i := 4) sc__law_names.nd rfl (.inl rfl)) (pgs_cons (pg_name (i := 5) sc__law_names.nd rfl (.inr rfl)) pgs_nil))))
    (pss_cons (ps_set (i := 6) sc__law_names.nd rfl (.inr rfl) (pe_join pe_str (pe_lc (own := [("_law_k", 8)]) (g := gName 8) (tt := tYes) rfl sc__law_names.nd (pi_range1 (by rfl) T.n_range (pa_cons (pe_op op_add pe_int (pe_ca CT (hr.mono (by decide)) (by rfl) (pa_cons (pv 0) (pa_cons pe_int pa_nil)))) pa_nil)) (blkOk_by (N := ["_law_bag_here", "_law_many", "_law_letters", "_law_words", "_law_style", "_law_turn", "_law_base", "_law_at", "_law_k"]) (sc := defScope s__law_names) (by decide +kernel)) (fun _ _ _ _ _ => (pg_name (i := 8) sc__law_names.nd rfl (.inl rfl))) (fun _ _ _ _ _ => pts_nil) (fun _ _ _ _ _ => (pe_ix ix_str (pv 2) (pe_ca CT (hr.mono (by decide)) (by rfl) (pa_cons (pv 0) (pa_cons pe_int pa_nil))) (fun _ _ => rfl))))))
    (pss_cons (ps_set (i := 7) sc__law_names.nd rfl (.inr rfl) (pe_ca CT (hr.mono (by decide)) (by rfl) (pa_cons (pv 0) (pa_cons (pe_op op_add (pe_callB call_len_str (by rfl) T.n_len (by decide +kernel) (pa_cons (pv 6) pa_nil)) pe_int) pa_nil))))
    (pss_cons (ps_if (pt_cmpR op_eq (pv 4) pe_int (nomark _))
      (pss_one (ps_ret (pe_slice sl_list (pe_op op_cat (pe_slice sl_list (pv 3) (po_some (pv 5)) po_none) (pe_slice sl_list (pv 3) po_none (po_some (pv 5)))) po_none (po_some (pv 1)))))
      pss_nil)
    (pss_cons (ps_if (pt_cmpR op_eq (pv 4) pe_int (nomark _))
      (pss_one (ps_ret (pe_lc (own := [("_law_k", 8)]) (g := gName 8) (tt := tYes) rfl sc__law_names.nd (pi_range1 (by rfl) T.n_range (pa_cons (pv 1) pa_nil)) (blkOk_by (N := ["_law_bag_here", "_law_many", "_law_letters", "_law_words", "_law_style", "_law_turn", "_law_base", "_law_at", "_law_k"]) (sc := defScope s__law_names) (by decide +kernel)) (fun _ _ _ _ _ => (pg_name (i := 8) sc__law_names.nd rfl (.inl rfl))) (fun _ _ _ _ _ => pts_nil) (fun _ _ _ _ _ => (pe_ix ix_str (pv 2) (pe_op op_mod (pe_callTy call_int1 (by rfl) T.n_int (by decide +kernel) (pa_cons (pe_op op_add (pv 5) (pe_op op_mul pe_int (pv 8))) pa_nil)) pe_int) (fun _ _ => rfl))))))
      pss_nil)
    (pss_one (ps_ret (pe_lc (own := [("_law_k", 8)]) (g := gName 8) (tt := tYes) rfl sc__law_names.nd (pi_range1 (by rfl) T.n_range (pa_cons (pv 1) pa_nil)) (blkOk_by (N := ["_law_bag_here", "_law_many", "_law_letters", "_law_words", "_law_style", "_law_turn", "_law_base", "_law_at", "_law_k"]) (sc := defScope s__law_names) (by decide +kernel)) (fun _ _ _ _ _ => (pg_name (i := 8) sc__law_names.nd rfl (.inl rfl))) (fun _ _ _ _ _ => pts_nil) (fun _ _ _ _ _ => (pe_op op_add_str (pe_op op_add_str (pe_slice sl_str (pv 6) po_none (po_some (pv 7))) (pe_ix ix_str (pv 2) (pe_op op_mod (pe_callTy call_int1 (by rfl) T.n_int (by decide +kernel) (pa_cons (pe_op op_add (pv 5) (pe_op op_mul pe_int (pv 8))) pa_nil)) pe_int) (fun _ _ => rfl))) (pe_slice sl_str (pv 6) (po_some (pv 7)) po_none)))))))))))))), ?_⟩
    -- the words
    refine ⟨_, rfl, _, _, rfl, rfl, by decide +kernel, ⟨_, rfl⟩, _, _, rfl, rfl, by decide +kernel, by decide +kernel, fun pw hpw => ?_⟩
    rw [show Txt.split (Str.ofString "send take ended close else first any step quit server back again where log a b ab ba z" ++ Str.ofString " stuck seat sticks lane") (Str.ofString " ") = wordL from split_words]
    have e1 := Ext.new (o := .lst (wordL.map V.str)) hpw
    have hw1 : upd H pw (.lst (wordL.map V.str)) pw = some (.lst (wordL.map V.str)) := upd_same
    generalize upd H pw (.lst (wordL.map V.str)) = H1 at e1 hw1 ⊢
    -- style, turn
    refine ⟨_, rfl, a, 4, rfl, hb.up e1, by decide, by decide, fun r0 l0 u0 => ⟨_, rfl, a, 20, rfl, hb.up e1, by decide, by decide, fun r1 l1 u1 => ⟨by show 2 ≤ sizeLine; decide, fun pt hpt => ?_⟩⟩⟩
    have e2 := e1.trans (Ext.new (o := .tup [.int r0, .int r1]) hpt)
    have hw2 := Ext.new (o := .tup [.int r0, .int r1]) hpt _ _ hw1
    refine ⟨pt, _, rfl, SqT.of upd_same, rfl, _, _, rfl, _, _, rfl, rfl, ?_⟩
    generalize upd H1 pt (.tup [.int r0, .int r1]) = H2 at e2 hw2 ⊢
    -- the base
    refine ⟨⟨_, rfl⟩, _, rfl, a, 7, rfl, hb.up e2, by decide, by decide, fun r2 l2 u2 => ⟨_, _, rfl, rfl, _, rfl, by omega, by omega, fun D hD => ?_⟩⟩
    refine lc_ext walk_range (fun _ v _ => ∃ c, c ∈ abcL ∧ v = .str (one c)) (fun _ _ _ _ _ h => h) hD (by show (1 + r2).toNat ≤ 2 ^ 24; omega) (fun _ _ => trivial) ?_ ?_
    · rintro i x H' H'' hi e ⟨rfl, rfl⟩
      refine ⟨Ext.refl _, fun Q' q' => ?_⟩
      refine ⟨_, rfl, _, rfl, a, 26, rfl, hb.up (e2.trans e), by decide, by decide, fun r l u => ?_⟩
      obtain ⟨j, rfl⟩ : ∃ j : Nat, r = (j : Int) := ⟨r.toNat, by omega⟩
      have hj : j < 26 := by omega
      exact ⟨_, _, 97 + j, rfl, rfl, by decide +kernel, atI_nat (abc_at j hj), q' _ _ (Ext.refl _) ⟨_, abc_mem hj, rfl⟩⟩
    intro H3 xs e3 hD3 hl hR
    obtain ⟨cs, rfl, hcl, hcm⟩ := ones_of hl hR
    have hcs1 : 1 ≤ cs.length := by rw [hcl]; omega
    have hcs7 : cs.length ≤ 7 := by rw [hcl]; omega
    refine ⟨_, D, cs.map one, rfl, rfl, .inl (SqL.of hD3), by rw [ones_len, List.length_map]; show cs.length + cs.length * 0 ≤ _; omega, ?_⟩
    have hj := join_signs cs
    have ej : Txt.join (Str.ofString "") (cs.map one) = Txt.join "" (cs.map one) := rfl
    rw [ej]
    generalize Txt.join "" (cs.map one) = b at hj ⊢
    have hbl : b.length = cs.length := by rw [tlen, hj]
    have e23 := e2.trans e3
    have hw3 := e3 _ _ hw2
    -- the place
    refine ⟨_, rfl, _, rfl, _, rfl, by rw [hbl]; show _ ≤ 2 ^ 24; omega, _, _, rfl, rfl, a, _, rfl, hb.up e23, by omega, by omega, fun r3 l3 u3 => ?_⟩
    obtain ⟨t, rfl⟩ : ∃ j : Nat, r1 = (j : Int) := ⟨r1.toNat, by omega⟩
    obtain ⟨at_, rfl⟩ : ∃ j : Nat, r3 = (j : Int) := ⟨r3.toNat, by omega⟩
    obtain ⟨k, rfl⟩ : ∃ j : Nat, m = (j : Int) := ⟨m.toNat, by omega⟩
    have hk8 : k ≤ 8 := by omega
    have ha : at_ ≤ cs.length := by omega
    refine ⟨_, rfl, rfl, _, rfl, ?_⟩
    refine ite2 (fun g0 => ?_) (fun g0 => ?_)
    · refine ⟨_, rfl, _, rfl, _, rfl, pw, _, rfl, SqL.of hw3, fun p1 h1 => ?_⟩
      have f1 := Ext.new (o := .lst (cutV (wordL.map V.str) (some (t : Int)) none)) h1
      refine ⟨_, rfl, _, rfl, _, rfl, pw, _, rfl, SqL.of (f1 _ _ hw3), fun p2 h2 => ?_⟩
      have f2 := Ext.new (o := .lst (cutV (wordL.map V.str) none (some (t : Int)))) h2
      refine ⟨p1, p2, _, _, rfl, rfl, f2 _ _ upd_same, upd_same, ?_, fun p3 h3 => ?_⟩
      · have z1 := cutV_length (wordL.map V.str) (some (t : Int)) none
        have z2 := cutV_length (wordL.map V.str) none (some (t : Int))
        have z3 : (wordL.map V.str).length = 23 := rfl
        show _ ≤ 2 ^ 24
        omega
      · have f3 := Ext.new (o := .lst (cutV (wordL.map V.str) (some (t : Int)) none ++ cutV (wordL.map V.str) none (some (t : Int)))) h3
        refine ⟨_, rfl, _, rfl, p3, _, rfl, SqL.of upd_same, fun p4 h4 => ?_⟩
        have el : cutV (cutV (wordL.map V.str) (some (t : Int)) none ++ cutV (wordL.map V.str) none (some (t : Int))) none (some (k : Int)) = ((wordL.drop t ++ wordL.take t).take k).map V.str := by
          rw [cut_drop, cut_take, cut_take, List.map_take, List.map_append, List.map_drop, List.map_take]
        rw [el]
        have e4 := ((e23.trans f1).trans f2).trans f3
        exact q p4 _ _ (e4.trans (Ext.new h4)) (e4.free h4) upd_same (names0 t k (by omega) (by omega))
    · refine ⟨_, rfl, rfl, _, rfl, ?_⟩
      refine ite2 (fun g1 => ?_) (fun g1 => ?_)
      · refine ⟨_, rfl, _, rfl, by omega, by omega, fun D4 hD4 => ?_⟩
        refine lc_det walk_range (fun i => .int (0 + (i : Int))) (fun _ => true) (fun i => .str (one (let1 t i))) hD4 (by show _ ≤ 2 ^ 24; omega) (fun i H x H' _ y => y) (fun _ _ => trivial) (fun i H' _ _ Q' q' => q') (fun i H' hi _ _ Q' q' => ?_) ?_
        · refine ⟨_, rfl, _, rfl, _, rfl, _, _, rfl, rfl, .inl ⟨by decide, by decide⟩, _, _, rfl, rfl, .inl ⟨_, rfl, _, _, rfl, rfl, pos_of (by decide), _, _, let1 t i, rfl, rfl, by decide +kernel, ?_, q'⟩⟩
          have ev : ((t : Int) + 3 * (0 + (i : Int))) % 26 = (((t + 3 * i) % 26 : Nat) : Int) := by omega
          show atI _ (((t : Int) + 3 * (0 + (i : Int))) % 26) = _
          rw [ev]
          exact atI_nat (abc_at _ (Nat.mod_lt _ (by decide)))
        · rw [List.filter_eq_self.mpr (fun _ _ => rfl)]
          have em : ((List.range (k : Int).toNat).map fun i => V.str (one (let1 t i))) = ((List.range k).map fun i => one (let1 t i)).map V.str := by
            rw [List.map_map]
            rfl
          rw [em]
          exact q D4 _ _ (e23.trans (Ext.new hD4)) (e23.free hD4) upd_same (names1 t k hk8)
      · refine ⟨_, rfl, _, rfl, by omega, by omega, fun D4 hD4 => ?_⟩
        refine lc_det walk_range (fun i => .int (0 + (i : Int))) (fun _ => true) (fun i => .str (cutS b none (some (at_ : Int)) ++ one (let1 t i) ++ cutS b (some (at_ : Int)) none)) hD4 (by show _ ≤ 2 ^ 24; omega) (fun i H x H' _ y => y) (fun _ _ => trivial) (fun i H' _ _ Q' q' => q') (fun i H' hi _ _ Q' q' => ?_) ?_
        · have hb2 : b.length ≤ 2 ^ 24 := by omega
          have c1 := cutS_length b none (some (at_ : Int))
          have c2 := cutS_length b (some (at_ : Int)) none
          refine ⟨_, rfl, _, rfl, _, rfl, b, rfl, hb2, ?_⟩
          refine ⟨_, rfl, _, rfl, _, rfl, _, _, rfl, rfl, .inl ⟨by decide, by decide⟩, _, _, rfl, rfl, .inl ⟨_, rfl, _, _, rfl, rfl, pos_of (by decide), _, _, let1 t i, rfl, rfl, by decide +kernel, ?_, ?_⟩⟩
          · have ev : ((t : Int) + 3 * (0 + (i : Int))) % 26 = (((t + 3 * i) % 26 : Nat) : Int) := by omega
            show atI _ (((t : Int) + 3 * (0 + (i : Int))) % 26) = _
            rw [ev]
            exact atI_nat (abc_at _ (Nat.mod_lt _ (by decide)))
          · refine ⟨_, _, rfl, rfl, by show _ + 1 ≤ 2 ^ 24; omega, ?_⟩
            refine ⟨_, rfl, _, rfl, _, rfl, b, rfl, hb2, _, _, rfl, rfl, ?_, q'⟩
            have c3 : (cutS b none (some (at_ : Int)) ++ one (let1 t i)).length = (cutS b none (some (at_ : Int))).length + 1 := by
              rw [tlen, tlen, tl_app, List.length_append]
              rfl
            show (cutS b none (some (at_ : Int)) ++ one (let1 t i)).length + _ ≤ 2 ^ 24
            omega
        · rw [List.filter_eq_self.mpr (fun _ _ => rfl)]
          have em : ((List.range (k : Int).toNat).map fun i => V.str (cutS b none (some (at_ : Int)) ++ one (let1 t i) ++ cutS b (some (at_ : Int)) none)) = ((List.range k).map fun i => cutS b none (some (at_ : Int)) ++ one (let1 t i) ++ cutS b (some (at_ : Int)) none).map V.str := by
            rw [List.map_map]
            rfl
          rw [em]
          refine q D4 _ _ (e23.trans (Ext.new hD4)) (e23.free hD4) upd_same (names2 cs at_ t k _ hcs1 hcs7 hcm hk8 ha fun i _ => ?_)
          rw [tl_app, tl_app, cutS_take, cutS_drop, hj]
          rfl
end

end K22

set_option Elab.async false
set_option linter.all false
set_option maxRecDepth 100000
set_option maxHeartbeats 4000000
namespace K22
open PySem PySem.Spec PyProof.Rows L2 Ol
open TL (tl)
-- f
section
variable {P : Program} {w : World} {K : PySem.W.Frag} {mg : Str → Option Value} {base : Heap}

abbrev s__law_bag : Stmt := (topS 24)
theorem sc__law_bag : FnScope ["_law_script", "_law_cell"] ["_law_script"] (defScope s__law_bag) := ⟨rfl, rfl, rfl, by decide +kernel, rfl, by decide +kernel, by decide +kernel⟩
theorem ok_bag {f : Addr} {fd : FuncData} (F : Fun K "_law_bag" "_law_bag" s__law_bag f fd) (T : BT mg) :
    FnOk P w K mg base CX0 1 f fd ["_law_script"] (spBag0 K) := by
  refine F.ok sc__law_bag (fun vs H Q E h => ?_) (fun cdv A outer s H vs Q E hr h => ?_)
  · obtain ⟨a, ns, rfl, _⟩ := h
    rfl
  · obtain ⟨a, ns, rfl, hs, hl, q⟩ := h
    refine ⟨_, (pss_one (ps_ret (pe_lst (pa_cons pe_int (pa_cons pe_int (pa_cons pe_int (pa_cons (pe_lc (own := [("_law_cell", 1)]) (g := gName 1) (tt := tYes) rfl sc__law_bag.nd (pi_list (pe_slice sl_list (pv 0) po_none (po_some pe_int))) (blkOk_by (N := ["_law_script", "_law_cell"]) (sc := defScope s__law_bag) (by decide +kernel)) (fun _ _ _ _ _ => (pg_name (i := 1) sc__law_bag.nd rfl (.inl rfl))) (fun _ _ _ _ _ => pts_nil) (fun _ _ _ _ _ => (pe_callB call_abs (by rfl) T.n_abs (by decide +kernel) (pa_cons (pv 1) pa_nil)))) pa_nil))))))), ?_⟩
    obtain ⟨cs, ec, hc⟩ := cut_ints ns none (some 63)
    refine ⟨_, rfl, _, rfl, a, _, rfl, hs, fun p hp => ?_⟩
    rw [ec]
    have e1 : Ext H (upd H p (.lst (cs.map V.int))) := Ext.new hp
    refine ⟨p, rfl, ⟨_, SqL.of upd_same⟩, fun D hD => ?_⟩
    have e2 : Ext (upd H p (.lst (cs.map V.int))) (upd (upd H p (.lst (cs.map V.int))) D (.lst ((cs.map fun i => if i < 0 then -i else i).map V.int))) := Ext.new hD
    refine lc_det (walk_list (K := K) (a := p) (xs := cs.map V.int)) (fun i => .int (cs.getD i 0)) (fun _ => true) (fun i => .int (if cs.getD i 0 < 0 then -(cs.getD i 0) else cs.getD i 0)) hD (by rw [List.length_map]; exact Nat.le_trans hc (Nat.le_trans hl (by decide)))
      ?_ (fun H' e => SqL.of (e _ _ upd_same)) (fun i H' _ _ Q' q' => q') (fun i H' _ _ _ Q' q' => ⟨_, rfl, _, rfl, q'⟩) ?_
    · rintro i H' x H'' hi ⟨rfl, hx⟩
      refine ⟨rfl, ?_⟩
      rw [List.getElem?_map] at hx
      rw [List.getD_eq_getElem?_getD]
      cases e : cs[i]? with
      | none => rw [e] at hx; cases hx
      | some z => rw [e] at hx; exact (Option.some.inj hx).symm
    · rw [List.filter_eq_self.mpr (fun _ _ => rfl), List.length_map, map_range_getI (fun i => V.int (if i < 0 then -i else i)) cs]
      have em : (cs.map fun i => V.int (if i < 0 then -i else i)) = (cs.map fun i => if i < 0 then -i else i).map V.int := by
        rw [List.map_map]
        rfl
      rw [em]
      refine ⟨by show 4 ≤ sizeLine; decide, fun r hr' => ?_⟩
      have e3 := Ext.new (o := .lst (bagL 0 1234567891 0 D)) hr'
      have nDr : D ≠ r := fun z => by rw [← z, upd_same] at hr'; cases hr'
      refine q r D (cs.map fun i => if i < 0 then -i else i) _ ((e1.trans e2).free hr') ((e1.trans e2).trans e3) upd_same (by rw [upd_ne nDr, upd_same]) ?_ nDr
      intro n hn
      obtain ⟨i, _, rfl⟩ := List.mem_map.mp hn
      split <;> omega
end
end K22

set_option Elab.async false
set_option linter.all false
set_option maxRecDepth 100000
set_option maxHeartbeats 4000000
namespace K22
open PySem PySem.Spec PyProof.Rows L2 Ol RZ
open TL (tl)
def words4 : List Str := ["close", "ended", "send", "take"]
theorem DqAll_snoc {H : Hp} : ∀ {xs : List V} {ds : List PyData} {v : V} {d : PyData}, DqAll H xs ds → Dq H v d → DqAll H (xs ++ [v]) (ds ++ [d])
  | _, _, _, _, .nil, h => .cons h .nil
  | _, _, _, _, .cons a t, h => .cons a (DqAll_snoc t h)
section
variable {P : Program} {w : World} {K : PySem.W.Frag} {mg : Str → Option Value} {base : Heap}
def wordsV : List V := [.str "close", .str "ended", .str "send", .str "take"]
theorem inV_words (x : Str) : inV (.str x) wordsV = isWordS x := by
  show ((("close" : Str) == x) || ((("ended" : Str) == x) || ((("send" : Str) == x) || ((("take" : Str) == x) || false)))) = isWordS x
  unfold isWordS
  rw [Bool.eq_iff_iff]
  simp only [Bool.or_eq_true, beq_iff_eq, decide_eq_true_eq, Bool.or_false]
  constructor
  · rintro (h | h | h | h)
    · exact Or.inl h.symm
    · exact Or.inr (Or.inl h.symm)
    · exact Or.inr (Or.inr (Or.inl h.symm))
    · exact Or.inr (Or.inr (Or.inr h.symm))
  · rintro (h | h | h | h)
    · exact Or.inl h.symm
    · exact Or.inr (Or.inl h.symm)
    · exact Or.inr (Or.inr (Or.inl h.symm))
    · exact Or.inr (Or.inr (Or.inr h.symm))
theorem kS_no {d : PyData} (h : ¬ kS d = true) : isWordD d = false ∧ isElseD d = false ∧ isNameD d = false := by
  cases d with
  | str x => exact absurd rfl h
  | _ => exact ⟨rfl, rfl, rfl⟩

abbrev s_is_word : Stmt := (topS 15)
theorem sc_is_word : FnScope ["thing"] ["thing"] (defScope s_is_word) := ⟨rfl, rfl, rfl, by decide +kernel, rfl, by decide +kernel, by decide +kernel⟩
theorem ok_is_word {f : Addr} {fd : FuncData} (F : Fun K "is_word" "is_word" s_is_word f fd) (T : BT mg) {aW : Addr} (gW : mg "WORDS" = some (.ref aW)) (hW : ∀ H, SqT K H aW wordsV) :
    FnOk P w K mg base CX0 1 f fd ["thing"] (spPred Any isWordD) := by
  refine F.ok sc_is_word (fun vs H Q E h => ?_) (fun cdv A outer s H vs Q E hr h => ?_)
  · obtain ⟨v, d, rfl, _⟩ := h
    rfl
  · obtain ⟨v, d, rfl, hd, hz, q⟩ := h
    have q' := q H (Ext.refl H)
    refine ⟨_, (pss_one (ps_ret (pe_and (pe_callB call_isi (by rfl) T.n_isinstance (by decide +kernel) (pa_cons (pv 0) (pa_cons (pe_bltn (v := .ty "str") (by rfl) T.n_str (by decide +kernel) rfl) pa_nil))) (pe_one (pe_cmpR op_in_seq (pv 0) (pe_glob (v := .ref aW) rfl gW rfl) (by rfl)))))), ?_⟩
    refine ⟨_, rfl, _, _, _, _, _, rfl, .ty "str", ty_of hd, ki_str d, _, rfl, ?_⟩
    refine ite2 (fun h => ?_) (fun h => ?_)
    · obtain ⟨x, rfl, rfl⟩ := dq_str hd h
      refine ⟨_, rfl, aW, _, rfl, .inr (hW _), rfl, by decide +kernel, ?_⟩
      have e : (if false = true then !inV (.str x) wordsV else inV (.str x) wordsV) = isWordD (.str x) := by
        rw [if_neg Bool.false_ne_true, inV_words]
        rfl
      rw [e]
      exact q'
    · rw [(kS_no h).1] at q'
      exact q'

abbrev s_is_arm : Stmt := (topS 17)
theorem sc_is_arm : FnScope ["thing"] ["thing"] (defScope s_is_arm) := ⟨rfl, rfl, rfl, by decide +kernel, rfl, by decide +kernel, by decide +kernel⟩
theorem kT_not {d : PyData} (h : (!kT d) = true) : isArmD d = false := by
  cases d with
  | tuple ds => cases h
  | _ => rfl
theorem kT_yes {d : PyData} (h : ¬ (!kT d) = true) : kT d = true := by
  cases e : kT d with
  | true => rfl
  | false => rw [e] at h; exact absurd rfl h
theorem isArm_len {ds : List PyData} (h2 : ds.length ≠ 2) (h3 : ds.length ≠ 3) : isArmD (.tuple ds) = false := by
  match ds, h2, h3 with
  | [], _, _ => rfl
  | [_], _, _ => rfl
  | [_, _], h, _ => exact absurd rfl h
  | [_, _, _], _, h => exact absurd rfl h
  | _ :: _ :: _ :: _ :: _, _, _ => rfl
theorem two_of {H : Hp} {xs : List V} {ds : List PyData} (t : DqAll H xs ds) (h : xs.length = 2) : ∃ v0 v1 d0 d1, xs = [v0, v1] ∧ ds = [d0, d1] ∧ Dq H v0 d0 ∧ Dq H v1 d1 := by
  cases t with
  | nil => cases h
  | cons a t => cases t with
    | nil => cases h
    | cons b t => cases t with
      | nil => exact ⟨_, _, _, _, rfl, rfl, a, b⟩
      | cons c t => simp at h
theorem three_of {H : Hp} {xs : List V} {ds : List PyData} (t : DqAll H xs ds) (h : xs.length = 3) : ∃ v0 v1 v2 d0 d1 d2, xs = [v0, v1, v2] ∧ ds = [d0, d1, d2] ∧ Dq H v0 d0 ∧ Dq H v1 d1 ∧ Dq H v2 d2 := by
  cases t with
  | nil => cases h
  | cons a t => cases t with
    | nil => cases h
    | cons b t => cases t with
      | nil => cases h
      | cons c t => cases t with
        | nil => exact ⟨_, _, _, _, _, _, rfl, rfl, a, b, c⟩
        | cons e t => simp at h
theorem ok_is_arm {f : Addr} {fd : FuncData} (F : Fun K "is_arm" "is_arm" s_is_arm f fd) (T : BT mg)
    (C2 : Ca P w K mg base 2 "is_number" ["thing"] (spPred Any isNumD)) (C3 : Ca P w K mg base 1 "is_name" ["thing"] (spPred Ok1 isNameD)) (C4 : Ca P w K mg base 1 "is_word" ["thing"] (spPred Any isWordD)) :
    FnOk P w K mg base CX0 3 f fd ["thing"] (spPred OkT isArmD) := by
  refine F.ok sc_is_arm (fun vs H Q E h => ?_) (fun cdv A outer s H vs Q E hr h => ?_)
  · obtain ⟨v, d, rfl, _⟩ := h
    rfl
  · obtain ⟨v, d, rfl, hd, hz, q⟩ := h
    refine ⟨_, (pss_cons (ps_if (pt_not (pt_val (pe_callB call_isi (by rfl) T.n_isinstance (by decide +kernel) (pa_cons (pv 0) (pa_cons (pe_bltn (v := .ty "tuple") (by rfl) T.n_tuple (by decide +kernel) rfl) pa_nil)))))
      (pss_one (ps_ret pe_bl))
      pss_nil)
    (pss_cons (ps_if (pt_cmpR op_eq (pe_callB call_len_seq (by rfl) T.n_len (by decide +kernel) (pa_cons (pv 0) pa_nil)) pe_int (nomark _))
      (pss_one (ps_ret (pe_and (pe_callB call_isi (by rfl) T.n_isinstance (by decide +kernel) (pa_cons (pe_ix ix_tup (pv 0) pe_int (fun _ _ => rfl)) (pa_cons (pe_bltn (v := .ty "str") (by rfl) T.n_str (by decide +kernel) rfl) pa_nil))) (pe_and (pe_cmpR op_eq (pe_ix ix_tup (pv 0) pe_int (fun _ _ => rfl)) pe_str (nomark _)) (pe_one (pe_ca C2 (hr.mono (by decide)) (by rfl) (pa_cons (pe_ix ix_tup (pv 0) pe_int (fun _ _ => rfl)) pa_nil)))))))
      pss_nil)
    (pss_one (ps_ret (pe_and (pe_cmpR op_eq (pe_callB call_len_seq (by rfl) T.n_len (by decide +kernel) (pa_cons (pv 0) pa_nil)) pe_int (nomark _)) (pe_and (pe_ca C4 (hr.mono (by decide)) (by rfl) (pa_cons (pe_ix ix_tup (pv 0) pe_int (fun _ _ => rfl)) pa_nil)) (pe_and (pe_ca C3 (hr.mono (by decide)) (by rfl) (pa_cons (pe_ix ix_tup (pv 0) pe_int (fun _ _ => rfl)) pa_nil)) (pe_one (pe_ca C2 (hr.mono (by decide)) (by rfl) (pa_cons (pe_ix ix_tup (pv 0) pe_int (fun _ _ => rfl)) pa_nil)))))))))), ?_⟩
    refine ⟨_, rfl, _, _, _, _, _, rfl, .ty "tuple", ty_of hd, ki_tuple d, _, rfl, ?_⟩
    refine ite2 (fun h => ?_) (fun h => ?_)
    · have q' := q H (Ext.refl H)
      rw [kT_not h] at q'
      exact q'
    · obtain ⟨a, xs, ds, rfl, rfl, ha, t⟩ := dq_tup hd (kT_yes h)
      have sa : ∀ {H1}, Ext H H1 → SqT K H1 a xs := fun e => SqT.of (e _ _ ha)
      have hl := t.len
      refine ⟨_, rfl, a, _, rfl, .inr (SqT.of ha), rfl, _, rfl, ?_⟩
      refine ite2 (fun h2 => ?_) (fun h2 => ?_)
      · have h2' : xs.length = 2 := by
          have z := of_decide_eq_true h2
          injection z with z
          omega
        obtain ⟨v0, v1, d0, d1, rfl, rfl, t0, t1⟩ := two_of t h2'
        have ea : isArmD (.tuple [d0, d1]) = (isElseD d0 && isNumD d1) := rfl
        rw [ea] at q
        refine ⟨_, rfl, a, _, _, _, rfl, rfl, SqT.of ha, rfl, _, _, _, _, _, rfl, .ty "str", ty_of t0, ki_str d0, _, rfl, ?_⟩
        refine ite2 (fun h0 => ?_) (fun h0 => ?_)
        · obtain ⟨x, rfl, rfl⟩ := dq_str t0 h0
          refine ⟨_, rfl, a, _, _, _, rfl, rfl, SqT.of ha, rfl, rfl, _, rfl, ?_⟩
          refine ite2 (fun h1 => ?_) (fun h1 => ?_)
          · refine ⟨_, rfl, a, _, _, _, rfl, rfl, SqT.of ha, rfl, v1, d1, rfl, t1, trivial, fun H1 e1 => ?_⟩
            have z := q H1 e1
            have e0 : isElseD (.str x) = true := by
              have z := of_decide_eq_true h1
              injection z with z
              exact decide_eq_true z
            rw [e0, Bool.true_and] at z
            exact z
          · have z := q H (Ext.refl H)
            have e0 : isElseD (.str x) = false := decide_eq_false fun z => h1 (decide_eq_true (by rw [z]))
            rw [e0, Bool.false_and] at z
            exact z
        · have z := q H (Ext.refl H)
          rw [(kS_no h0).2.1, Bool.false_and] at z
          exact z
      · have h2' : xs.length ≠ 2 := fun z => h2 (decide_eq_true (by rw [z]; rfl))
        refine ⟨_, rfl, a, _, rfl, .inr (SqT.of ha), rfl, _, rfl, ?_⟩
        refine ite2 (fun h3 => ?_) (fun h3 => ?_)
        · have h3' : xs.length = 3 := by
            have z := of_decide_eq_true h3
            injection z with z
            omega
          obtain ⟨v0, v1, v2, d0, d1, d2, rfl, rfl, t0, t1, t2⟩ := three_of t h3'
          have ea : isArmD (.tuple [d0, d1, d2]) = (isWordD d0 && (isNameD d1 && isNumD d2)) := rfl
          rw [ea] at q
          refine ⟨_, rfl, a, _, _, _, rfl, rfl, SqT.of ha, rfl, v0, d0, rfl, t0, trivial, fun H1 e1 => ⟨_, rfl, ?_⟩⟩
          refine ite2 (fun g0 => ?_) (fun g0 => ?_)
          · rw [g0, Bool.true_and] at q
            refine ⟨_, rfl, a, _, _, _, rfl, rfl, sa e1, rfl, v1, d1, rfl, t1.up e1, hz _ _ rfl (by simp), fun H2 e2 => ⟨_, rfl, ?_⟩⟩
            refine ite2 (fun g1 => ?_) (fun g1 => ?_)
            · rw [g1, Bool.true_and] at q
              refine ⟨_, rfl, a, _, _, _, rfl, rfl, sa (e1.trans e2), rfl, v2, d2, rfl, t2.up (e1.trans e2), trivial, fun H3 e3 => ?_⟩
              exact q H3 ((e1.trans e2).trans e3)
            · have z := q H2 (e1.trans e2)
              rw [Bool.eq_false_iff.mpr g1, Bool.false_and] at z
              exact z
          · have z := q H1 e1
            rw [Bool.eq_false_iff.mpr g0, Bool.false_and] at z
            exact z
        · have h3' : xs.length ≠ 3 := fun z => h3 (decide_eq_true (by rw [z]; rfl))
          have z := q H (Ext.refl H)
          rw [isArm_len (by omega) (by omega)] at z
          exact z
end
end K22

set_option Elab.async false
set_option linter.all false
set_option maxRecDepth 100000
set_option maxHeartbeats 4000000
namespace K22
open PySem PySem.Spec PyProof.Rows L2 Ol RZ
open TL (tl)
/-! ### sizes -/
theorem lay_all : ∀ {ds : List PyData}, (∀ d ∈ ds, d.canLay0 = true) → PyData.canLayAll0 ds = true
  | [], _ => by simp [PyData.canLayAll0]
  | d :: ds, h => by simp [PyData.canLayAll0, h d List.mem_cons_self, lay_all fun e he => h e (List.mem_cons_of_mem _ he)]
theorem lay_shaped {d : PyData} (h : d.canLay0 = true) (hd : d.depth ≤ 64) : SeqAt.shaped d = true := by
  unfold SeqAt.shaped
  rw [h, decide_eq_true hd]
  rfl
theorem fits_list {n : Nat} {ds : List PyData} (h : ∀ d ∈ ds, Gd n d) (hn : n ≤ 3) (h5 : ds.length ≤ 20) : Fits (.list ds) := by
  have h' : ∀ d ∈ ds, Gd 3 d := fun d hd => (h d hd).up hn
  obtain ⟨h1, h2, h3, h4⟩ := all_sh h'
  refine ⟨by simpa [PyData.showable] using h1, by simp only [PyData.depth]; omega, ?_⟩
  simp only [PyData.shown]
  have z := pile_le _ h3
  have z1 := listText_le (PyData.shownAll ds)
  rw [h4] at z
  have z2 : ds.length * (200 * 8 ^ 3 + 2) ≤ 20 * (200 * 8 ^ 3 + 2) := Nat.mul_le_mul_right _ h5
  exact Nat.le_trans (show _ ≤ 20 * (200 * 8 ^ 3 + 2) + 2 by omega) (by decide)
theorem name_gd {x : Str} (h : isNameS x = true) : Gd 0 (.str x) := by
  obtain ⟨h1, h2, h3⟩ := name_tl h
  exact gd_str x (by rw [tlen]; omega) fun c hc => abc_low c (h3 c hc)
theorem word_gd : ∀ x ∈ words4, Gd 0 (.str x) := fun x hx => by
  unfold words4 at hx
  simp only [List.mem_cons, List.not_mem_nil, or_false] at hx
  rcases hx with rfl | rfl | rfl | rfl <;> exact gd_str _ (by decide +kernel) (by decide +kernel)
theorem name_ok {x : Str} (h : isNameS x = true) : PyData.strOk x = true := by
  obtain ⟨h1, h2, h3⟩ := name_tl h
  unfold PyData.strOk
  rw [Array.all_eq_true_iff_forall_mem]
  intro c hc
  have hc' : c ∈ tl x := Array.mem_toList_iff.mpr hc
  exact decide_eq_true (Nat.lt_of_lt_of_le (abc_low c (h3 c hc')) (by decide))
theorem word_ok : ∀ x ∈ words4, PyData.strOk x = true := by decide +kernel
theorem ix_get {ns : List Str} (j : Nat) (hj : j < ns.length) : (ns.map V.str)[j]? = some (.str ns[j]) := by
  rw [List.getElem?_map, List.getElem?_eq_getElem hj]
  rfl
end K22

set_option Elab.async false
set_option linter.all false
set_option maxRecDepth 100000
set_option maxHeartbeats 4000000
namespace K22
open PySem PySem.Spec PyProof.Rows L2 Ol RZ
open TL (tl)
/-! ### arms and places -/
abbrev Arm := Option (Str × Str) × Nat
def armD : Arm → PyData
  | (some (w, l), g) => .tuple [.str w, .str l, .int g]
  | (none, g) => .tuple [.str "else", .int g]
def GArm (a : Arm) : Prop := match a.1 with
  | some (w, l) => w ∈ words4 ∧ isNameS l = true
  | none => True
abbrev Place := Str × List Arm
def placeD (p : Place) : PyData := .tuple [.str p.1, .tuple (p.2.map armD)]
/-- places of a program with n of them -/
structure GPlace (n : Nat) (p : Place) : Prop where
  mode : p.1 = "first" ∨ p.1 = "any"
  arms : ∀ a ∈ p.2, GArm a ∧ a.2 < n
  els : (p.2.filter fun a => a.1.isNone).length ≤ 1
  few : p.2.length ≤ 5
theorem isArm_of {a : Arm} (h : GArm a) : isArmD (armD a) = true ∧ OkT (armD a) := by
  obtain ⟨o, g⟩ := a
  cases o with
  | none =>
    refine ⟨?_, fun ds e he hm => ?_⟩
    · show (isElseD (.str "else") && isNumD (.int (g : Int))) = true
      have : (0 : Int) ≤ (g : Int) := by omega
      simp [isElseD, isNumD, this]
    · cases he
      simp only [List.mem_cons, List.not_mem_nil, or_false] at hm
      rcases hm with rfl | rfl
      · exact fun y hy => by cases hy; exact ⟨by decide +kernel, by decide +kernel⟩
      · exact nope1 rfl
  | some p =>
    obtain ⟨w, l⟩ := p
    have h' : w ∈ words4 ∧ isNameS l = true := h
    have hw : isWordS w = true := by
      unfold isWordS
      have := h'.1
      unfold words4 at this
      simp only [List.mem_cons, List.not_mem_nil, or_false] at this
      exact decide_eq_true this
    refine ⟨?_, fun ds e he hm => ?_⟩
    · show (isWordD (.str w) && (isNameD (.str l) && isNumD (.int (g : Int)))) = true
      have : (0 : Int) ≤ (g : Int) := by omega
      have e1 : isWordD (.str w) = true := hw
      have e2 : isNameD (.str l) = true := h'.2
      rw [e1, e2]
      simp [isNumD, this]
    · cases he
      simp only [List.mem_cons, List.not_mem_nil, or_false] at hm
      rcases hm with rfl | rfl | rfl
      · exact fun y hy => by
          cases hy
          have := h'.1
          unfold words4 at this
          simp only [List.mem_cons, List.not_mem_nil, or_false] at this
          rcases this with rfl | rfl | rfl | rfl <;> exact ⟨by decide +kernel, by decide +kernel⟩
      · exact fun y hy => by cases hy; exact name_tx h'.2
      · exact nope1 rfl
section
variable {P : Program} {w : World} {K : PySem.W.Frag} {mg : Str → Option Value} {base : Heap} {C : Addr}
/-! ### is_mode -/
def modesV : List V := [.str "any", .str "first"]
abbrev s_mode : Stmt := (topS 16)
theorem sc_mode : FnScope ["thing"] ["thing"] (defScope s_mode) := ⟨rfl, rfl, rfl, by decide +kernel, rfl, by decide +kernel, by decide +kernel⟩
/-! ### is_row_of -/
abbrev s_row : Stmt := (topS 18)
theorem sc_row : FnScope ["thing", "is_part", "part"] ["thing", "is_part"] (defScope s_row) := ⟨rfl, rfl, rfl, by decide +kernel, rfl, by decide +kernel, by decide +kernel⟩
theorem kit_lt : PySem.W.kitAny K (.type "list") [.type "list", .type "tuple"] = some true :=
  kitAny_cons (kit_ty (by decide +kernel : kitB "list" "list" = some true)) (fun z => Bool.noConfusion z) (fun _ => rfl)
theorem kit_tt : PySem.W.kitAny K (.type "tuple") [.type "list", .type "tuple"] = some true :=
  kitAny_cons (kit_ty (by decide +kernel : kitB "tuple" "list" = some false)) (fun _ => kitAny_cons (kit_ty (by decide +kernel : kitB "tuple" "tuple" = some true)) (fun z => Bool.noConfusion z) (fun _ => rfl)) (fun z => Bool.noConfusion z)
/-! ### is_place, is_else -/
abbrev s_place : Stmt := (topS 20)
theorem sc_place : FnScope ["thing"] ["thing"] (defScope s_place) := ⟨rfl, rfl, rfl, by decide +kernel, rfl, by decide +kernel, by decide +kernel⟩
theorem place_inv {H : Hp} {v : V} {p : Place} (h : Dq H v (placeD p)) : ∃ a t xs, v = .ref a ∧ H a = some (.tup [.str p.1, .ref t]) ∧ H t = some (.tup xs) ∧ DqAll H xs (p.2.map armD) := by
  obtain ⟨a, xs, ds, rfl, e, h1, h2⟩ := dq_tup h rfl
  unfold placeD at e
  cases e
  cases h2 with
  | cons a1 t1 => cases t1 with
    | cons a2 t2 =>
      cases t2
      cases a1
      obtain ⟨t, ys, es, rfl, e2, h3, h4⟩ := dq_tup a2 rfl
      cases e2
      exact ⟨a, t, ys, rfl, h1, h3, h4⟩
def spElse : Sp := fun vs H Q _ => ∃ (v : V) (a : Arm), vs = [v] ∧ Dq H v (armD a) ∧ Q (.bl a.1.isNone) H
abbrev s_else : Stmt := (topS 21)
theorem sc_else : FnScope ["arm"] ["arm"] (defScope s_else) := ⟨rfl, rfl, rfl, by decide +kernel, rfl, by decide +kernel, by decide +kernel⟩
theorem ok_else {f : Addr} {fd : FuncData} (F : Fun K "is_else" "is_else" s_else f fd) (T : BT mg) :
    FnOk P w K mg base CX0 1 f fd ["arm"] spElse := by
  refine F.ok sc_else (fun vs H Q E h => ?_) (fun cdv A outer s H vs Q E hr h => ?_)
  · obtain ⟨v, a, rfl, _⟩ := h
    rfl
  · obtain ⟨v, a, rfl, hd, q⟩ := h
    refine ⟨_, (pss_one (ps_ret (pe_cmpR op_eq (pe_callB call_len_seq (by rfl) T.n_len (by decide +kernel) (pa_cons (pv 0) pa_nil)) pe_int (nomark _)))), ?_⟩
    obtain ⟨o, g⟩ := a
    cases o with
    | none =>
      obtain ⟨b, xs, ds, rfl, e, h1, h2⟩ := dq_tup (d := .tuple [.str "else", .int (g : Int)]) hd rfl
      cases e
      have l := h2.len
      refine ⟨_, rfl, b, _, rfl, .inr (SqT.of h1), rfl, ?_⟩
      rw [l]
      exact q
    | some p =>
      obtain ⟨b, xs, ds, rfl, e, h1, h2⟩ := dq_tup (d := .tuple [.str p.1, .str p.2, .int (g : Int)]) hd rfl
      cases e
      have l := h2.len
      refine ⟨_, rfl, b, _, rfl, .inr (SqT.of h1), rfl, ?_⟩
      rw [l]
      exact q
end
end K22

set_option Elab.async false
set_option linter.all false
set_option maxRecDepth 100000
set_option maxHeartbeats 4000000
namespace K22
open PySem PySem.Spec PyProof.Rows L2 Ol RZ
open TL (tl)
theorem arm_inv {H : Hp} {v : V} {a : Arm} (h : Dq H v (armD a)) : ∃ t xs, v = .ref t ∧ H t = some (.tup xs) ∧ atI xs (-1) = some (.int (a.2 : Int)) ∧ atI xs 0 = some (.str (match a.1 with | some p => p.1 | none => "else")) ∧ (∀ p, a.1 = some p → atI xs 1 = some (.str p.2)) := by
  obtain ⟨o, g⟩ := a
  cases o with
  | none =>
    obtain ⟨t, xs, ds, rfl, e, h1, h2⟩ := dq_tup (d := .tuple [.str "else", .int (g : Int)]) h rfl
    cases e
    cases h2 with
    | cons a1 t1 => cases t1 with
      | cons a2 t2 =>
        cases t2
        cases a1
        cases a2
        exact ⟨t, _, rfl, h1, rfl, rfl, fun p z => nomatch z⟩
  | some p =>
    obtain ⟨t, xs, ds, rfl, e, h1, h2⟩ := dq_tup (d := .tuple [.str p.1, .str p.2, .int (g : Int)]) h rfl
    cases e
    cases h2 with
    | cons a1 t1 => cases t1 with
      | cons a2 t2 => cases t2 with
        | cons a3 t3 =>
          cases t3
          cases a1
          cases a2
          cases a3
          exact ⟨t, _, rfl, h1, rfl, rfl, fun q z => by cases z; rfl⟩
section
variable {P : Program} {w : World} {K : PySem.W.Frag} {mg : Str → Option Value} {base : Heap} {C : Addr}
/-- what the text says of the class Program -/
structure PT (K : PySem.W.Frag) (mg : Str → Option Value) (C : Addr) : Prop where
  cl : Cls K C
  nP : NoAttr K C "_places"
  nU : NoAttr K C "_used"
  gC : mg "Program" = some (.ref C)
  n_enum : mg "enumerate" = none
abbrev cP (i : Nat) : Stmt := inClass (topS 22) i
/-- the places of a program -/
structure Pls (ps : List Place) : Prop where
  ne : ps ≠ []
  few : ps.length ≤ 6
  ok : ∀ p ∈ ps, GPlace ps.length p
abbrev nChk : List Str := ["self", "_", "arms", "arm", "place"]
theorem sc_check : FnScope nChk ["self"] (defScope (cP 1)) := ⟨rfl, rfl, rfl, by decide +kernel, rfl, by decide +kernel, by decide +kernel⟩
end
end K22

set_option Elab.async false
set_option linter.all false
set_option maxRecDepth 100000
set_option maxHeartbeats 4000000
namespace K22
open PySem PySem.Spec PyProof.Rows L2 Ol RZ
open TL (tl)
/-- the fields -/
def pf (t u : Addr) : List (Str × V) := [("_places", .ref t), ("_used", .ref u)]
theorem p_u : ¬ (("_places" : Str) = "_used") := by decide +kernel
theorem u_p : ¬ (("_used" : Str) = "_places") := by decide +kernel
theorem pf_p (t u : Addr) : (pf t u).lookup ("_places" : Str) = some (.ref t) := by
  unfold pf
  rw [List.lookup_cons_self]
theorem pf_u (t u : Addr) : (pf t u).lookup ("_used" : Str) = some (.ref u) := by
  unfold pf
  rw [List.lookup_cons, beq_eq_false_iff_ne.mpr u_p]
  dsimp only
  rw [List.lookup_cons_self]
theorem pf_no (t u : Addr) {m : Str} (h1 : ¬ m = "_places") (h2 : ¬ m = "_used") : (pf t u).lookup m = none := by
  unfold pf
  rw [List.lookup_cons, beq_eq_false_iff_ne.mpr h1]
  dsimp only
  rw [List.lookup_cons, beq_eq_false_iff_ne.mpr h2]
  rfl
theorem putp1 (t : Addr) : putF "_places" (.ref t) [] = ([("_places", V.ref t)] : List (Str × V)) := rfl
theorem putp2 (t u : Addr) : putF "_used" (.ref u) [("_places", V.ref t)] = pf t u := by
  show (if ("_places" : Str) = "_used" then _ else (("_places" : Str), V.ref t) :: putF "_used" (V.ref u) []) = _
  rw [if_neg p_u]
  rfl
/-- the lanes that stand in arms -/
def lanesA (as : List Arm) : List Str := as.filterMap fun a => a.1.map (·.2)
def lanesP (ps : List Place) : List Str := ps.flatMap fun p => lanesA p.2
theorem lanesA_snoc (as : List Arm) (a : Arm) : lanesA (as ++ [a]) = lanesA as ++ lanesA [a] := List.filterMap_append ..
theorem lanesP_snoc (ps : List Place) (p : Place) : lanesP (ps ++ [p]) = lanesP ps ++ lanesA p.2 := by
  unfold lanesP
  rw [List.flatMap_append]
  simp
/-- a Program of these places stands at p -/
def ProgAt (C : Addr) (H : Hp) (p : Addr) (ps : List Place) : Prop :=
  ∃ dx t u xs us, H p = some (.ins C dx (pf t u)) ∧ H t = some (.tup xs) ∧ DqAll H xs (ps.map placeD) ∧ H u = some (.tup (us.map V.str)) ∧ sortedS us = true ∧ us.Nodup ∧ us.length ≤ 40 ∧ (∀ x, x ∈ us ↔ x ∈ lanesP ps) ∧ Pls ps
theorem ProgAt.up {C : Addr} {H H' : Hp} {p : Addr} {ps : List Place} (e : Ext H H') : ProgAt C H p ps → ProgAt C H' p ps
  | ⟨dx, t, u, xs, us, h1, h2, h3, h4, r⟩ => ⟨dx, t, u, xs, us, e _ _ h1, e _ _ h2, DqAll.up e h3, e _ _ h4, r⟩
def kvT (ns : List Str) : List (Key × V) := ns.map fun x => (.inr x, .bl true)
theorem kvT_val {ns : List Str} {x : Str} : valV (kvT ns) (.inr x) = if x ∈ ns then some (.bl true) else none := by
  induction ns with
  | nil => rfl
  | cons y ns ih =>
    unfold kvT
    rw [List.map_cons]
    by_cases c : y = x
    · rw [valV_pos (by rw [c]), if_pos (by rw [c]; exact List.mem_cons_self)]
    · rw [valV_neg (fun z => c (Sum.inr.inj z))]
      have ih' : valV (ns.map fun x => (Sum.inr x, V.bl true)) (.inr x) = if x ∈ ns then some (.bl true) else none := ih
      rw [ih']
      by_cases m : x ∈ ns
      · rw [if_pos m, if_pos (List.mem_cons_of_mem _ m)]
      · rw [if_neg m, if_neg]
        intro z
        rcases List.mem_cons.mp z with z | z
        · exact c z.symm
        · exact m z
section
variable {P : Program} {w : World} {K : PySem.W.Frag} {mg : Str → Option Value} {base : Heap} {C : Addr}
abbrev rTupOf (K : PySem.W.Frag) : List V → Hp → VK → Prop := fun xs H Q => ∃ p ys, xs = [.ref p] ∧ ((SqL K H p ys ∧ ∀ l, H l = none → Q (.ref l) (upd H l (.tup ys))) ∨ (SqT K H p ys ∧ Q (.ref p) H))
theorem kvT_put {ns : List Str} {x : Str} (h : x ∈ ns) : putK (kvT ns) (.inr x) (.bl true) = kvT ns := by
  have some_ : (valV (kvT ns) (.inr x)).isSome = true := by rw [kvT_val, if_pos h]; rfl
  unfold putK
  rw [valV_any, some_, if_pos rfl]
  unfold kvT
  rw [List.map_map]
  refine List.map_congr_left fun y _ => ?_
  show (if Sum.inr y = (Sum.inr x : Key) then (Sum.inr y, V.bl true) else (Sum.inr y, V.bl true)) = _
  split <;> rfl
theorem kvT_new {ns : List Str} {x : Str} (h : x ∉ ns) : putK (kvT ns) (.inr x) (.bl true) = kvT (ns ++ [x]) := by
  rw [putK_new (by rw [kvT_val, if_neg h])]
  unfold kvT
  rw [List.map_append]
  rfl
def armsAt (ps : List Place) (i : Nat) : List Arm := (ps[i]?.map (·.2)).getD []
theorem one_field (t : Addr) {m : Str} (h : ¬ m = "_places") : ([("_places", V.ref t)] : List (Str × V)).lookup m = none := by
  rw [List.lookup_cons, beq_eq_false_iff_ne.mpr h]
  rfl
theorem dq_app {H : Hp} : ∀ {a b : List V} {da db : List PyData}, DqAll H a da → DqAll H b db → DqAll H (a ++ b) (da ++ db)
  | _, _, _, _, .nil, h => h
  | _, _, _, _, .cons x t, h => .cons x (dq_app t h)
abbrev nInit : List Str := ["self", "places", "names", "_", "arms", "arm", "mode"]
theorem sc_prog : FnScope nInit ["self", "places"] (defScope (cP 0)) := ⟨rfl, rfl, rfl, by decide +kernel, rfl, by decide +kernel, by decide +kernel⟩
end
end K22

set_option Elab.async false
set_option linter.all false
set_option maxRecDepth 100000
set_option maxHeartbeats 4000000
namespace K22
open PySem PySem.Spec PyProof.Rows L2 Ol RZ
open TL (tl)
/-! ### sizes of arms -/
theorem sysUp {H H' : Hp} (h : Sys H) (e : Ext H H') : Sys H' := by
  obtain ⟨o, u, q⟩ := h
  exact ⟨o, u, e _ _ q⟩
theorem eqv_e (ds : List PyData) : PyData.eqv (.list ds) (.list []) = ds.isEmpty := by
  cases ds <;> simp [PyData.eqv, PyData.eqvAll]
theorem gd_nat5 {n : Nat} (h : n ≤ 6) : Gd 0 (.int (n : Int)) := by
  have : n = 0 ∨ n = 1 ∨ n = 2 ∨ n = 3 ∨ n = 4 ∨ n = 5 ∨ n = 6 := by omega
  rcases this with rfl | rfl | rfl | rfl | rfl | rfl | rfl <;> exact gd_int _ (by decide +kernel) (by decide +kernel)
theorem gd_arm {a : Arm} (h : GArm a) (hg : a.2 ≤ 6) : Gd 1 (armD a) := by
  obtain ⟨o, g⟩ := a
  cases o with
  | none =>
    refine gd_tuple (fun d hd => ?_) (by simp)
    simp only [List.mem_cons, List.not_mem_nil, or_false] at hd
    rcases hd with rfl | rfl
    · exact gd_str _ (by decide +kernel) (by decide +kernel)
    · exact gd_nat5 hg
  | some p =>
    obtain ⟨w, l⟩ := p
    have h' : w ∈ words4 ∧ isNameS l = true := h
    refine gd_tuple (fun d hd => ?_) (by simp)
    simp only [List.mem_cons, List.not_mem_nil, or_false] at hd
    rcases hd with rfl | rfl | rfl
    · exact word_gd _ h'.1
    · exact name_gd h'.2
    · exact gd_nat5 hg
theorem lay_arm {a : Arm} (h : GArm a) : (armD a).canLay0 = true := by
  obtain ⟨o, g⟩ := a
  cases o with
  | none =>
    show (PyData.tuple [.str "else", .int (g : Int)]).canLay0 = true
    simp only [PyData.canLay0, PyData.canLayAll0, Bool.and_true]
    decide +kernel
  | some p =>
    obtain ⟨w, l⟩ := p
    have h' : w ∈ words4 ∧ isNameS l = true := h
    show (PyData.tuple [.str w, .str l, .int (g : Int)]).canLay0 = true
    simp only [PyData.canLay0, PyData.canLayAll0, Bool.and_true, Bool.and_eq_true]
    exact ⟨word_ok _ h'.1, name_ok h'.2⟩
theorem arms_shaped {as : List Arm} (h : ∀ a ∈ as, GArm a ∧ a.2 ≤ 6) : SeqAt.shaped (.list (as.map armD)) = true := by
  have hg : ∀ d ∈ as.map armD, Gd 1 d := fun d hd => by
    obtain ⟨a, ha, rfl⟩ := List.mem_map.mp hd
    exact gd_arm (h a ha).1 (h a ha).2
  refine lay_shaped ?_ ?_
  · rw [PyData.canLay0]
    refine lay_all fun d hd => ?_
    obtain ⟨a, ha, rfl⟩ := List.mem_map.mp hd
    exact lay_arm (h a ha).1
  · have := (all_sh hg).2.1
    simp only [PyData.depth]
    omega
theorem nil_shaped : SeqAt.shaped (.list []) = true := by
  refine lay_shaped (by simp [PyData.canLay0, PyData.canLayAll0]) (by simp [PyData.depth, PyData.depthAll])
theorem filt_step {as : List Arm} {k : Nat} (h : k < as.length) (q : Arm → Bool) : (as.take (k + 1)).filter q = (as.take k).filter q ++ (if q as[k] = true then [as[k]] else []) := by
  rw [List.take_add_one, List.getElem?_eq_getElem h, List.filter_append]
  congr 1
  cases hq : q as[k] <;> simp [hq]
theorem arm_at {H : Hp} {r : Addr} {a : Arm} (h : Dq H (.ref r) (armD a)) : ∃ xs, H r = some (.tup xs) ∧ ∀ H' : Hp, H' r = some (.tup xs) → Dq H' (.ref r) (armD a) := by
  obtain ⟨o, g⟩ := a
  cases o with
  | none =>
    obtain ⟨t, xs, ds, e, ed, h1, h2⟩ := dq_tup (d := .tuple [.str "else", .int (g : Int)]) h rfl
    cases e
    cases ed
    refine ⟨xs, h1, fun H' h' => ?_⟩
    cases h2 with
    | cons a1 t1 => cases t1 with
      | cons a2 t2 =>
        cases t2
        cases a1
        cases a2
        exact .tup h' (.cons (.str _) (.cons (.int _) .nil))
  | some p =>
    obtain ⟨t, xs, ds, e, ed, h1, h2⟩ := dq_tup (d := .tuple [.str p.1, .str p.2, .int (g : Int)]) h rfl
    cases e
    cases ed
    refine ⟨xs, h1, fun H' h' => ?_⟩
    cases h2 with
    | cons a1 t1 => cases t1 with
      | cons a2 t2 => cases t2 with
        | cons a3 t3 =>
          cases t3
          cases a1
          cases a2
          cases a3
          exact .tup h' (.cons (.str _) (.cons (.str _) (.cons (.int _) .nil)))
theorem els_iff {a : Arm} (h : GArm a) : ((match a.1 with | some p => p.1 | none => ("else" : Str)) : Str) = ("else" : Str) ↔ a.1.isNone = true := by
  obtain ⟨o, g⟩ := a
  cases o with
  | none => exact ⟨fun _ => rfl, fun _ => rfl⟩
  | some p =>
    have h' : p.1 ∈ words4 ∧ isNameS p.2 = true := h
    refine ⟨fun z => ?_, fun z => Bool.noConfusion z⟩
    have hw := h'.1
    have z' : p.1 = "else" := z
    rw [z'] at hw
    exact absurd hw (by decide +kernel)
end K22

set_option Elab.async false
set_option linter.all false
set_option maxRecDepth 100000
set_option maxHeartbeats 4000000
namespace K22
open PySem PySem.Spec PyProof.Rows L2 Ol RZ
open TL (tl)
section
variable {P : Program} {w : World} {K : PySem.W.Frag} {mg : Str → Option Value} {base : Heap} {C CP R NL NP NA : Addr}
/-! ### errors with one field -/
structure XT (K : PySem.W.Frag) (mg : Str → Option Value) (nm fld : Str) (R : Addr) : Prop where
  g : mg nm = some (.ref R)
  ox : OexC K R
  xf : XfC K R
  nF : PySem.W.findIn K (.ref R) fld = some none
def x1 (fld : Str) (x : V) : List (Str × V) := [(fld, x)]
theorem x1_at (fld : Str) (x : V) : (x1 fld x).lookup fld = some x := by
  unfold x1
  rw [List.lookup_cons_self]
def spXI (fld : Str) (R : Addr) : Sp := fun vs H Q _ => ∃ (a : Addr) (x : V), vs = [.ref a, x] ∧ H a = some (exo a R none) ∧
  ∀ (dx : Addr) (H' : Hp), H dx = none → dx ≠ a → (∀ b, b ≠ a → b ≠ dx → H' b = H b) → H' a = some (exo a R (some dx)) → H' dx = some (exd dx (x1 fld x)) → Q .non H'
structure XI (P : Program) (w : World) (K : PySem.W.Frag) (mg : Str → Option Value) (base : Heap) (fld : Str) (R : Addr) : Prop where
  has : ∃ (f : Addr) (fd : FuncData), FnOk P w K mg base CX0 1 f fd ["self", fld] (spXI fld R) ∧ PySem.W.findIn K (.ref R) "__init__" = some (some (.ref f)) ∧
    PySem.W.typeIn K (.ref f) = some (.type "function") ∧ Binds K fd ["self", fld] []
abbrev s_xplace : Stmt := inClass (topS 4) 0
theorem sc_xplace : FnScope ["self", "place"] ["self", "place"] (defScope s_xplace) := ⟨rfl, rfl, rfl, by decide +kernel, rfl, by decide +kernel, by decide +kernel⟩
theorem ok_xplace {f : Addr} {fd : FuncData} (F : Fun K "__init__" "NoPlace.__init__" s_xplace f fd) (T : XT K mg "NoPlace" "place" R) :
    FnOk P w K mg base CX0 1 f fd ["self", "place"] (spXI "place" R) := by
  refine F.ok sc_xplace (fun vs H Q E h => ?_) (fun cdv A outer s H vs Q E hr h => ?_)
  · obtain ⟨a, x, rfl, _⟩ := h
    rfl
  · obtain ⟨a, x, rfl, ha, q⟩ := h
    refine ⟨_, (pss_one (ps_ost (pv 0) (pv 1))), ?_⟩
    refine ⟨_, rfl, _, rfl, a, R, rfl, T.ox, T.nF, .inl ⟨ha, fun dx hdx nda => ?_⟩⟩
    refine q dx _ hdx nda (fun b h1 h2 => ?_) upd_same ?_
    · rw [upd_ne h1, upd_ne h2]
    · rw [upd_ne nda]
      exact upd_same
/-! ### a place, or NoPlace -/
abbrev RzP (P : XK) (H : Hp) (R : Addr) (fld : Str) (x : V) : Prop := ∀ (d : Addr) (H' : Hp), Ext H H' → H' d = some (.xd (x1 fld x)) → P (.ref R) (some d) H'
end
end K22

set_option Elab.async false
set_option linter.all false
set_option maxRecDepth 100000
set_option maxHeartbeats 4000000
namespace K22
open PySem PySem.Spec PyProof.Rows L2 Ol RZ
open TL (tl)
/-- what the class Program inherits -/
structure IsP (K : PySem.W.Frag) (C : Addr) : Prop where
  cls : PySem.W.findIn K (.ref C) "__class__" =
    some (some (.builtin "object.__class__"))
  get : PySem.W.specialIn K (.builtin "object.__class__") "__get__" =
    some (some (.builtin "getset_descriptor.__get__"))
  set : PySem.W.takesIn K (.builtin "object.__class__") =
    some true
  mro : PySem.W.mroIn K C (.type "object") =
    some true
  kC : PySem.W.kitOne K (.ref C) (.ref C) = some true
theorem IsP.nC {K : PySem.W.Frag} {C : Addr} : PySem.W.notFirst K C (.ref C) = true := by simp [PySem.W.notFirst]
theorem IsP.ty {K : PySem.W.Frag} {C : Addr} {H : Hp} {p dx : Addr} {fs : List (Str × V)} (I : IsP K C) (c : Cls K C) (h : H p = some (.ins C dx fs)) : TyX K H (.ref p) (.ref C) := .base (.ins h c I.cls I.get I.set I.mro)
/-! ### sizes of places -/
theorem str_mode {m : Str} (h : m = "first" ∨ m = "any") : Gd 0 (.str m) ∧ PyData.strOk m = true := by
  rcases h with rfl | rfl <;> exact ⟨gd_str _ (by decide +kernel) (by decide +kernel), by decide +kernel⟩
theorem gd_place {n : Nat} {p : Place} (h : GPlace n p) (hn : n ≤ 6) : Gd 3 (placeD p) := by
  refine gd_tuple (fun d hd => ?_) (by simp)
  simp only [List.mem_cons, List.not_mem_nil, or_false] at hd
  rcases hd with rfl | rfl
  · exact (str_mode h.mode).1.up (by omega)
  · refine gd_tuple (fun d hd => ?_) (by rw [List.length_map]; exact h.few)
    obtain ⟨a, ha, rfl⟩ := List.mem_map.mp hd
    have := h.arms a ha
    exact gd_arm this.1 (by omega)
theorem lay_place {n : Nat} {p : Place} (h : GPlace n p) : (placeD p).canLay0 = true := by
  show (PyData.tuple [.str p.1, .tuple (p.2.map armD)]).canLay0 = true
  have e : (PyData.tuple (p.2.map armD)).canLay0 = true := by
    rw [PyData.canLay0]
    refine lay_all fun d hd => ?_
    obtain ⟨a, ha, rfl⟩ := List.mem_map.mp hd
    exact lay_arm (h.arms a ha).1
  have e2 : (PyData.str p.1).canLay0 = true := by
    rw [PyData.canLay0]
    exact (str_mode h.mode).2
  rw [PyData.canLay0]
  refine lay_all fun d hd => ?_
  simp only [List.mem_cons, List.not_mem_nil, or_false] at hd
  rcases hd with rfl | rfl
  · exact e2
  · exact e
theorem gd_places {ps : List Place} (h : Pls ps) (h5 : ps.length ≤ 5) : Gd 4 (.list (ps.map placeD)) := by
  refine gd_list (fun d hd => ?_) (by rw [List.length_map]; exact h5)
  obtain ⟨p, hp, rfl⟩ := List.mem_map.mp hd
  exact gd_place (h.ok p hp) h.few
theorem lay_places {ps : List Place} (h : Pls ps) : (PyData.list (ps.map placeD)).canLay0 = true := by
  rw [PyData.canLay0]
  refine lay_all fun d hd => ?_
  obtain ⟨p, hp, rfl⟩ := List.mem_map.mp hd
  exact lay_place (h.ok p hp)
theorem sh_places {ps : List Place} (h : Pls ps) (h5 : ps.length ≤ 5) : SeqAt.shaped (.list (ps.map placeD)) = true := lay_shaped (lay_places h) (Nat.le_trans (gd_places h h5).dep (by decide))
theorem sh_placesT {ps : List Place} (h : Pls ps) (h5 : ps.length ≤ 5) : SeqAt.shaped (.tuple (ps.map placeD)) = true := by
  have g : Gd 4 (.tuple (ps.map placeD)) := by
    refine gd_tuple (fun d hd => ?_) (by rw [List.length_map]; exact h5)
    obtain ⟨p, hp, rfl⟩ := List.mem_map.mp hd
    exact gd_place (h.ok p hp) h.few
  refine lay_shaped ?_ (Nat.le_trans g.dep (by decide))
  rw [PyData.canLay0]
  refine lay_all fun d hd => ?_
  obtain ⟨p, hp, rfl⟩ := List.mem_map.mp hd
  exact lay_place (h.ok p hp)
section
variable {P : Program} {w : World} {K : PySem.W.Frag} {mg : Str → Option Value} {base : Heap} {C NP NA : Addr}
def spPls (C : Addr) : Sp := fun vs H Q _ => ∃ (p : Addr) (ps : List Place), vs = [.ref p] ∧ ProgAt C H p ps ∧ ∀ (l : Addr) (xs : List V) (H' : Hp), H l = none → Ext H H' → H' l = some (.lst xs) → DqAll H' xs (ps.map placeD) → Q (.ref l) H'
theorem sc_pls : FnScope ["self"] ["self"] (defScope (cP 7)) := ⟨rfl, rfl, rfl, by decide +kernel, rfl, by decide +kernel, by decide +kernel⟩
theorem ok_pls {f : Addr} {fd : FuncData} (F : Fun K "places" "Program.places" (cP 7) f fd) (T : BT mg) (L : PT K mg C) :
    FnOk P w K mg base CX0 1 f fd ["self"] (spPls C) := by
  refine F.ok sc_pls (fun vs H Q E h => ?_) (fun cdv A outer s H vs Q E hr h => ?_)
  · obtain ⟨p, ps, rfl, _⟩ := h
    rfl
  · obtain ⟨p, ps, rfl, hP, q⟩ := h
    refine ⟨_, (pss_one (ps_ret (pe_callTy call_list_of (by rfl) T.n_list (by decide +kernel) (pa_cons (pe_fld (pv 0) rfl) pa_nil)))), ?_⟩
    obtain ⟨dx, t, u, xs, us, h1, h2, h3, _⟩ := id hP
    refine ⟨_, rfl, p, C, dx, _, _, rfl, h1, L.cl, L.nP, pf_p _ _, t, _, rfl, .inr (SqT.of h2), fun l hl => ?_⟩
    exact q l xs _ hl (Ext.new hl) upd_same (DqAll.up (Ext.new hl) h3)
end
/-! ### places as they are handed in -/
abbrev HPl := Place × Bool × Bool
def hD (h : HPl) : PyData := if h.2.1 = true then .list [.str h.1.1, if h.2.2 = true then .list (h.1.2.map armD) else .tuple (h.1.2.map armD)] else .tuple [.str h.1.1, if h.2.2 = true then .list (h.1.2.map armD) else .tuple (h.1.2.map armD)]
theorem list_inv {H : Hp} {v : V} {ds : List PyData} (h : Dq H v (.list ds)) : ∃ a xs, v = .ref a ∧ H a = some (.lst xs) ∧ DqAll H xs ds := by
  cases h with
  | lst h1 h2 => exact ⟨_, _, rfl, h1, h2⟩
theorem in_inv {H : Hp} {v : V} {b : Bool} {ds : List PyData} (h : Dq H v (if b = true then .list ds else .tuple ds)) : ∃ t ys, v = .ref t ∧ (H t = some (.lst ys) ∨ H t = some (.tup ys)) ∧ DqAll H ys ds := by
  cases b with
  | true =>
    obtain ⟨t, ys, e, h1, h2⟩ := list_inv (ds := ds) h
    exact ⟨t, ys, e, .inl h1, h2⟩
  | false =>
    obtain ⟨t, ys, es, e, e2, h1, h2⟩ := dq_tup (d := .tuple ds) h rfl
    cases e2
    exact ⟨t, ys, e, .inr h1, h2⟩
theorem hd_inv {H : Hp} {v : V} {h : HPl} (hd : Dq H v (hD h)) : ∃ a t ys, v = .ref a ∧ (H a = some (.lst [.str h.1.1, .ref t]) ∨ H a = some (.tup [.str h.1.1, .ref t])) ∧ (H t = some (.lst ys) ∨ H t = some (.tup ys)) ∧ DqAll H ys (h.1.2.map armD) := by
  obtain ⟨p, b1, b2⟩ := h
  cases b1 with
  | true =>
    obtain ⟨a, xs, e, h1, h2⟩ := list_inv (ds := [.str p.1, if b2 = true then .list (p.2.map armD) else .tuple (p.2.map armD)]) hd
    cases h2 with
    | cons a1 t1 => cases t1 with
      | cons a2 t2 =>
        cases t2
        cases a1
        obtain ⟨t, ys, rfl, h3, h4⟩ := in_inv a2
        exact ⟨a, t, ys, e, .inl h1, h3, h4⟩
  | false =>
    obtain ⟨a, xs, ds, e, e2, h1, h2⟩ := dq_tup (d := .tuple [.str p.1, if b2 = true then .list (p.2.map armD) else .tuple (p.2.map armD)]) hd rfl
    cases e2
    cases h2 with
    | cons a1 t1 => cases t1 with
      | cons a2 t2 =>
        cases t2
        cases a1
        obtain ⟨t, ys, rfl, h3, h4⟩ := in_inv a2
        exact ⟨a, t, ys, e, .inr h1, h3, h4⟩
/-- a, b = a list or a tuple of that length -/
def gAny (K : PySem.W.Frag) (n : Nat) (t : TGs) : TG := fun v σ H Q => ∃ a xs, v = .ref a ∧ (SqL K H a xs ∨ SqT K H a xs) ∧ xs.length = n ∧ t xs σ H Q
theorem pg_any {X : Cx} {pos : Pos} {es : List Expr} {k : Nat} {t : TGs} {n : Nat} (calm : X.calm = true) (h : PGs X es t)
    (hn : (assignEach es X.env).length = n := by rfl) (hst : (assignEach es X.env).findIdx? (·.1) = none := by rfl) : PG X (.Tuple es k pos) (gAny X.K n t) := by
  constructor
  rintro pins s σ H v u Q I r ⟨a, xs, e, sq | sq, len, go⟩
  · exact (pg_lst (k := k) (pos := pos) calm h hn hst).run pins s σ H v u Q I r ⟨a, xs, e, sq, len, go⟩
  · exact (pg_tup (k := k) (pos := pos) calm h hn hst).run pins s σ H v u Q I r ⟨a, xs, e, sq, len, go⟩
section
variable {P : Program} {w : World} {K : PySem.W.Frag} {mg : Str → Option Value} {base : Heap} {C : Addr}
end
end K22

set_option Elab.async false
set_option linter.all false
set_option maxRecDepth 100000
set_option maxHeartbeats 4000000
namespace K22
open PySem PySem.Spec PyProof.Rows L2 Ol RZ
open TL (tl)
/-- the parts of a list or a tuple -/
def partsD : PyData → Option (List PyData)
  | .list ds => some ds
  | .tuple ds => some ds
  | _ => none
def isModeS (x : Str) : Bool := decide (x = "any" ∨ x = "first")
def isModeD : PyData → Bool
  | .str x => isModeS x
  | _ => false
def isRowD (p : PyData → Bool) (d : PyData) : Bool := match partsD d with
  | some ds => ds.all p
  | none => false
def isPlaceD (d : PyData) : Bool := match partsD d with
  | some [a, b] => isModeD a && isRowD isArmD b
  | _ => false
/-- what is answered of a value -/
abbrev Ans := Hp → V → Bool → Prop
def spAns (R : Ans) : Sp := fun vs H Q _ => ∃ (v : V) (b : Bool), vs = [v] ∧ R H v b ∧ ∀ H', Ext H H' → Q (.bl b) H'
def RMode : Ans := fun H v b => ∃ d, Dq H v d ∧ b = isModeD d
def RArm : Ans := fun H v b => ∃ d, Dq H v d ∧ OkT d ∧ b = isArmD d
/-- neither a list nor a tuple -/
def NoSeq (C : Addr) (H : Hp) (v : V) : Prop := (∃ d, Dq H v d ∧ partsD d = none) ∨ ∃ (p dx : Addr) (fs : List (Str × V)), v = .ref p ∧ H p = some (.ins C dx fs)
def RowOf (C : Addr) (R : Ans) : Ans := fun H v b =>
  (∃ (a : Addr) (xs : List V) (bs : List Bool), v = .ref a ∧ LT H a xs ∧ xs.length ≤ 60 ∧ bs.length = xs.length ∧ (∀ (i : Nat) (x : V) (c : Bool), xs[i]? = some x → bs[i]? = some c → R H x c) ∧ b = bs.all id) ∨ (NoSeq C H v ∧ b = false)
def RPlace (C : Addr) : Ans := fun H v b =>
  (∃ (a : Addr) (x0 x1 : V) (b0 b1 : Bool), v = .ref a ∧ LT H a [x0, x1] ∧ RMode H x0 b0 ∧ RowOf C RArm H x1 b1 ∧ b = (b0 && b1)) ∨
  (∃ (a : Addr) (xs : List V), v = .ref a ∧ LT H a xs ∧ xs.length ≠ 2 ∧ b = false) ∨ (NoSeq C H v ∧ b = false)
def AnsUp (R : Ans) : Prop := ∀ (H H' : Hp) (v : V) (b : Bool), Ext H H' → R H v b → R H' v b
theorem RMode.up : AnsUp RMode := fun _ _ _ _ e ⟨d, h, q⟩ => ⟨d, h.up e, q⟩
theorem RArm.up : AnsUp RArm := fun _ _ _ _ e ⟨d, h, q⟩ => ⟨d, h.up e, q⟩
theorem NoSeq.up {C : Addr} {H H' : Hp} {v : V} (e : Ext H H') : NoSeq C H v → NoSeq C H' v
  | .inl ⟨d, h, q⟩ => .inl ⟨d, h.up e, q⟩
  | .inr ⟨p, dx, fs, h, q⟩ => .inr ⟨p, dx, fs, h, e _ _ q⟩
theorem RowOf.up {C : Addr} {R : Ans} (u : AnsUp R) : AnsUp (RowOf C R) := by
  rintro H H' v b e (⟨a, xs, bs, h1, h2, h3, h4, h5, h6⟩ | ⟨h1, h2⟩)
  · exact .inl ⟨a, xs, bs, h1, h2.up e, h3, h4, fun i x c hx hc => u _ _ _ _ e (h5 i x c hx hc), h6⟩
  · exact .inr ⟨h1.up e, h2⟩
theorem RPlace.up {C : Addr} : AnsUp (RPlace C) := by
  rintro H H' v b e (⟨a, x0, x1, b0, b1, h1, h2, h3, h4, h5⟩ | ⟨a, xs, h1, h2, h3⟩ | ⟨h1, h2⟩)
  · exact .inl ⟨a, x0, x1, b0, b1, h1, h2.up e, RMode.up _ _ _ _ e h3, RowOf.up RArm.up _ _ _ _ e h4, h5⟩
  · exact .inr (.inl ⟨a, xs, h1, h2.up e, h3⟩)
  · exact .inr (.inr ⟨h1.up e, h2⟩)
/-- Program is neither a list nor a tuple -/
structure NoT (K : PySem.W.Frag) (C : Addr) : Prop where
  cl : Cls K C
  is : IsP K C
  nl : PySem.W.kitOne K (.ref C) (.type "list") = some false
  nt : PySem.W.kitOne K (.ref C) (.type "tuple") = some false
section
variable {P : Program} {w : World} {K : PySem.W.Frag} {mg : Str → Option Value} {base : Heap} {C : Addr}
theorem ty_lt {H : Hp} {a : Addr} {xs : List V} (h : LT H a xs) : ∃ t, TyX K H (.ref a) t ∧ PySem.W.kitAny K t [.type "list", .type "tuple"] = some true := by
  rcases h with h | h
  · exact ⟨_, .base (.lst h), kit_lt⟩
  · exact ⟨_, .base (.tup h), kit_tt⟩
theorem kit_no {d : PyData} (h : partsD d = none) : PySem.W.kitAny K (.type (tyD d)) [.type "list", .type "tuple"] = some false := by
  have go : ∀ s : String, kitB s "list" = some false → kitB s "tuple" = some false → PySem.W.kitAny K (.type s) [.type "list", .type "tuple"] = some false := fun s h1 h2 =>
    kitAny_cons (kit_ty h1) (fun _ => kitAny_cons (kit_ty h2) (fun _ => rfl) (fun z => Bool.noConfusion z)) (fun z => Bool.noConfusion z)
  cases d with
  | none => exact go "NoneType" (by decide +kernel) (by decide +kernel)
  | bool b => exact go "bool" (by decide +kernel) (by decide +kernel)
  | int b => exact go "int" (by decide +kernel) (by decide +kernel)
  | str b => exact go "str" (by decide +kernel) (by decide +kernel)
  | dict b => exact go "dict" (by decide +kernel) (by decide +kernel)
  | list b => cases h
  | tuple b => cases h
theorem ty_no (N : NoT K C) {H : Hp} {v : V} (h : NoSeq C H v) : ∃ t, TyX K H v t ∧ PySem.W.kitAny K t [.type "list", .type "tuple"] = some false := by
  rcases h with ⟨d, h, q⟩ | ⟨p, dx, fs, rfl, h⟩
  · exact ⟨_, ty_of h, kit_no q⟩
  · exact ⟨_, N.is.ty N.cl h, kitAny_cons N.nl (fun _ => kitAny_cons N.nt (fun _ => rfl) (fun z => Bool.noConfusion z)) (fun z => Bool.noConfusion z)⟩
/-! ### is_mode -/
theorem inV_modes (x : Str) : inV (.str x) modesV = isModeS x := by
  show ((("any" : Str) == x) || ((("first" : Str) == x) || false)) = isModeS x
  unfold isModeS
  rw [Bool.eq_iff_iff]
  simp only [Bool.or_eq_true, beq_iff_eq, decide_eq_true_eq, Bool.or_false]
  constructor
  · rintro (h | h)
    · exact Or.inl h.symm
    · exact Or.inr h.symm
  · rintro (h | h)
    · exact Or.inl h.symm
    · exact Or.inr h.symm
theorem mode_no {d : PyData} (h : ¬ kS d = true) : isModeD d = false := by
  cases d with
  | str x => exact absurd rfl h
  | _ => rfl
theorem ok_modeA {f : Addr} {fd : FuncData} (F : Fun K "is_mode" "is_mode" s_mode f fd) (T : BT mg) {aM : Addr} (gM : mg "MODES" = some (.ref aM)) (hM : ∀ H, SqT K H aM modesV) :
    FnOk P w K mg base CX0 1 f fd ["thing"] (spAns RMode) := by
  refine F.ok sc_mode (fun vs H Q E h => ?_) (fun cdv A outer s H vs Q E hr h => ?_)
  · obtain ⟨v, d, rfl, _⟩ := h
    rfl
  · obtain ⟨v, b, rfl, ⟨d, hd, rfl⟩, q⟩ := h
    have q' := q H (Ext.refl H)
    refine ⟨_, (pss_one (ps_ret (pe_and (pe_callB call_isi (by rfl) T.n_isinstance (by decide +kernel) (pa_cons (pv 0) (pa_cons (pe_bltn (v := .ty "str") (by rfl) T.n_str (by decide +kernel) rfl) pa_nil))) (pe_one (pe_cmpR op_in_seq (pv 0) (pe_glob (v := .ref aM) rfl gM rfl) (by rfl)))))), ?_⟩
    refine ⟨_, rfl, _, _, _, _, _, rfl, .ty "str", ty_of hd, ki_str d, _, rfl, ?_⟩
    refine ite2 (fun h => ?_) (fun h => ?_)
    · obtain ⟨x, rfl, rfl⟩ := dq_str hd h
      refine ⟨_, rfl, aM, _, rfl, .inr (hM _), rfl, by decide +kernel, ?_⟩
      have e : (if false = true then !inV (.str x) modesV else inV (.str x) modesV) = isModeD (.str x) := by
        rw [if_neg Bool.false_ne_true, inV_modes]
        rfl
      rw [e]
      exact q'
    · rw [mode_no h] at q'
      exact q'
/-! ### is_arm -/
theorem ok_armA {k : Nat} {f : Addr} {fd : FuncData} {ps : List Str} (h : FnOk P w K mg base CX0 k f fd ps (spPred OkT isArmD)) : FnOk P w K mg base CX0 k f fd ps (spAns RArm) :=
  h.imp fun vs H Q E ⟨v, b, e, ⟨d, hd, ok, eb⟩, q⟩ => ⟨v, d, e, hd, ok, fun H' e' => eb ▸ q H' e'⟩
/-! ### is_row_of -/
def spRowA (C : Addr) (R : Ans) (fN : Addr) : Sp := fun vs H Q _ => ∃ (v : V) (b : Bool), vs = [v, .ref fN] ∧ RowOf C R H v b ∧ ∀ H', Ext H H' → Q (.bl b) H'
theorem all_take {bs : List Bool} {n : Nat} (h : bs.length = n) : bs.take n = bs := by rw [← h, List.take_length]
theorem ok_rowA {R : Ans} (up : AnsUp R) {k : Nat} {f fN : Addr} {fd fdN : FuncData} (F : Fun K "is_row_of" "is_row_of" s_row f fd) (T : BT mg) (N : NoT K C)
    (FN : FnOk P w K mg base CX0 k fN fdN ["thing"] (spAns R)) (kN : PySem.W.keepIn K (.ref fN) = true) (bN : Binds K fdN ["thing"] []) :
    FnOk P w K mg base CX0 (k + 1) f fd ["thing", "is_part"] (spRowA C R fN) := by
  refine F.ok sc_row (fun vs H Q E h => ?_) (fun cdv A outer s H vs Q E hr h => ?_)
  · obtain ⟨v, b, rfl, _⟩ := h
    rfl
  · obtain ⟨v, b, rfl, hR, q⟩ := h
    refine ⟨_, (pss_one (ps_ret (pe_and (pe_callB call_isiT (by rfl) T.n_isinstance (by decide +kernel) (pa_cons (pv 0) (pa_cons (pe_tup (pa_cons (pe_bltn (v := .ty "list") (by rfl) T.n_list (by decide +kernel) rfl) (pa_cons (pe_bltn (v := .ty "tuple") (by rfl) T.n_tuple (by decide +kernel) rfl) pa_nil))) pa_nil)))
        (pe_one (pe_callB (cr_all rfl) (by rfl) T.n_all (by decide +kernel) (pa_cons (pe_lc (own := [("part", 2)]) (g := gName 2) (tt := tYes) rfl sc_row.nd (pi_anyA (pv 0)) (blkOk_by (N := ["thing", "is_part", "part"]) (sc := defScope s_row) (by decide +kernel)) (fun _ _ _ _ _ => pg_name (i := 2) sc_row.nd rfl (.inl rfl)) (fun _ _ _ _ _ => pts_nil)
          (fun _ _ _ _ _ => pe_callL (i := 1) FN (hr.mono (by omega)) rfl (by first | exact .inl rfl | exact .inr (.inl rfl) | exact .inr (.inr rfl)) kN bN .nil pass0 (pa_cons (pv 2) pa_nil))) pa_nil)))))), ?_⟩
    refine ⟨_, rfl, by show 2 ≤ sizeLine; decide, fun tp htp => ?_⟩
    have e1 := Ext.new (o := .tup [.ty "list", .ty "tuple"]) htp
    rcases hR with ⟨a, xs, bs, rfl, ha, hl, lb, hx, rfl⟩ | ⟨hn, rfl⟩
    · obtain ⟨t, ht, hk⟩ := ty_lt (K := K) (ha.up e1)
      refine ⟨_, tp, _, _, _, true, rfl, upd_same, .cons (.ty _) (.cons (.ty _) .nil), ht, hk, _, rfl, ?_⟩
      refine iteT ?_
      have ha1 := ha.up e1
      rcases ha1 with ha1 | ha1
      · refine .inl ⟨_, rfl, a, rfl, ⟨_, SqL.of ha1⟩, fun D hD => ?_⟩
        refine lc1_acc (walk_list (xs := xs)) (fun i ys _ => ys = (bs.take i).map V.bl ∧ i ≤ 60) (fun _ _ _ _ _ h => h) ⟨rfl, by decide⟩ hD (fun i ys _ h => by rw [h.1, List.length_map, List.length_take]; exact Nat.lt_of_le_of_lt (show _ ≤ 60 by omega) (by decide)) (fun H' e => SqL.of (e _ _ ha1)) ?_ ?_
        · rintro i x Hi H' ys hi e hy ⟨rfl, hxi⟩ ⟨hp, _⟩ QY QN kY kN
          have hi2 : i < bs.length := by omega
          refine ⟨rfl, ?_⟩
          refine tyes ?_
          refine ⟨rfl, _, rfl, x, bs[i], rfl, up _ _ _ _ (e1.trans e) (hx i x bs[i] hxi (List.getElem?_eq_getElem hi2)), fun H4 e4 => ?_⟩
          exact kY _ H4 e4 ⟨by rw [hp, List.take_add_one, List.getElem?_eq_getElem hi2, List.map_append]; rfl, by omega⟩
        · rintro H4 ys e4 hy ⟨hp, _⟩
          rw [all_take lb] at hp
          refine ⟨D, bs, rfl, SqL.of (by rw [hy, hp]), ?_⟩
          exact q _ (e1.trans e4)
      · refine .inr ⟨_, rfl, a, rfl, ⟨_, SqT.of ha1⟩, fun D hD => ?_⟩
        refine lc1_acc (walk_tup (xs := xs)) (fun i ys _ => ys = (bs.take i).map V.bl ∧ i ≤ 60) (fun _ _ _ _ _ h => h) ⟨rfl, by decide⟩ hD (fun i ys _ h => by rw [h.1, List.length_map, List.length_take]; exact Nat.lt_of_le_of_lt (show _ ≤ 60 by omega) (by decide)) (fun H' e => SqT.of (e _ _ ha1)) ?_ ?_
        · rintro i x Hi H' ys hi e hy ⟨rfl, hxi⟩ ⟨hp, _⟩ QY QN kY kN
          have hi2 : i < bs.length := by omega
          refine ⟨rfl, ?_⟩
          refine tyes ?_
          refine ⟨rfl, _, rfl, x, bs[i], rfl, up _ _ _ _ (e1.trans e) (hx i x bs[i] hxi (List.getElem?_eq_getElem hi2)), fun H4 e4 => ?_⟩
          exact kY _ H4 e4 ⟨by rw [hp, List.take_add_one, List.getElem?_eq_getElem hi2, List.map_append]; rfl, by omega⟩
        · rintro H4 ys e4 hy ⟨hp, _⟩
          rw [all_take lb] at hp
          refine ⟨D, bs, rfl, SqL.of (by rw [hy, hp]), ?_⟩
          exact q _ (e1.trans e4)
    · obtain ⟨t, ht, hk⟩ := ty_no N (hn.up e1)
      refine ⟨_, tp, _, _, _, false, rfl, upd_same, .cons (.ty _) (.cons (.ty _) .nil), ht, hk, _, rfl, ?_⟩
      exact iteF (q _ e1)
/-! ### is_place -/
theorem ok_placeA {f fA : Addr} {fd : FuncData} (F : Fun K "is_place" "is_place" s_place f fd) (T : BT mg) (N : NoT K C) (gA : mg "is_arm" = some (.ref fA))
    (CM : Ca P w K mg base 1 "is_mode" ["thing"] (spAns RMode)) (CR : Ca P w K mg base 4 "is_row_of" ["thing", "is_part"] (spRowA C RArm fA)) :
    FnOk P w K mg base CX0 5 f fd ["thing"] (spAns (RPlace C)) := by
  refine F.ok sc_place (fun vs H Q E h => ?_) (fun cdv A outer s H vs Q E hr h => ?_)
  · obtain ⟨v, d, rfl, _⟩ := h
    rfl
  · obtain ⟨v, b, rfl, hR, q⟩ := h
    refine ⟨_, (pss_cons (ps_if (PW.pt (pw_or (pt_not (pt_val (pe_callB call_isiT (by rfl) T.n_isinstance (by decide +kernel) (pa_cons (pv 0) (pa_cons (pe_tup (pa_cons (pe_bltn (v := .ty "list") (by rfl) T.n_list (by decide +kernel) rfl) (pa_cons (pe_bltn (v := .ty "tuple") (by rfl) T.n_tuple (by decide +kernel) rfl) pa_nil))) pa_nil))))) (pw_or1 (pt_cmpR op_ne (pe_callB call_len_seq (by rfl) T.n_len (by decide +kernel) (pa_cons (pv 0) pa_nil)) pe_int (nomark _))))) (pss_one (ps_ret pe_bl)) pss_nil)
      (pss_one (ps_ret (pe_and (pe_ca CM (hr.mono (by decide)) (by rfl) (pa_cons (pe_ix ix_any (pv 0) pe_int (fun _ _ => rfl)) pa_nil)) (pe_one (pe_ca CR (hr.mono (by decide)) (by rfl) (pa_cons (pe_ix ix_any (pv 0) pe_int (fun _ _ => rfl)) (pa_cons (pe_glob (v := .ref fA) rfl gA rfl) pa_nil)))))))), ?_⟩
    refine ⟨_, rfl, by show 2 ≤ sizeLine; decide, fun tp htp => ?_⟩
    have e1 := Ext.new (o := .tup [.ty "list", .ty "tuple"]) htp
    rcases hR with ⟨a, x0, x1, b0, b1, rfl, ha, h0, h1, rfl⟩ | ⟨a, xs, rfl, ha, hl, rfl⟩ | ⟨hn, rfl⟩
    · obtain ⟨t, ht, hk⟩ := ty_lt (K := K) (ha.up e1)
      refine ⟨_, tp, _, _, _, true, rfl, upd_same, .cons (.ty _) (.cons (.ty _) .nil), ht, hk, _, rfl, ?_⟩
      refine iteF ?_
      refine ⟨_, rfl, a, _, rfl, (ha.up e1).sq, rfl, _, rfl, ?_⟩
      refine iteF ?_
      refine ⟨_, rfl, ixA (ha.up e1) rfl ?_⟩
      refine ⟨x0, b0, rfl, RMode.up _ _ _ _ e1 h0, fun H2 e2 => ⟨_, rfl, ?_⟩⟩
      have e12 := e1.trans e2
      cases b0 with
      | true =>
        refine iteT ?_
        refine ⟨_, rfl, ixA (ha.up e12) rfl ?_⟩
        exact ⟨x1, b1, rfl, RowOf.up RArm.up _ _ _ _ e12 h1, fun H3 e3 => q _ (e12.trans e3)⟩
      | false => exact iteF (q _ e12)
    · obtain ⟨t, ht, hk⟩ := ty_lt (K := K) (ha.up e1)
      refine ⟨_, tp, _, _, _, true, rfl, upd_same, .cons (.ty _) (.cons (.ty _) .nil), ht, hk, _, rfl, ?_⟩
      refine iteF ?_
      refine ⟨_, rfl, a, _, rfl, (ha.up e1).sq, rfl, _, rfl, ?_⟩
      refine ite2 (fun g => ?_) (fun g => ?_)
      · exact q _ e1
      · refine absurd ?_ g
        have : ¬ (V.int (xs.length : Int) = V.int 2) := fun z => by
          injection z with z
          omega
        show (!decide (V.int (xs.length : Int) = V.int 2)) = true
        rw [decide_eq_false this]
        rfl
    · obtain ⟨t, ht, hk⟩ := ty_no N (hn.up e1)
      refine ⟨_, tp, _, _, _, false, rfl, upd_same, .cons (.ty _) (.cons (.ty _) .nil), ht, hk, _, rfl, ?_⟩
      exact iteT (q _ e1)
end
end K22

set_option Elab.async false
set_option linter.all false
set_option maxRecDepth 100000
set_option maxHeartbeats 4000000
namespace K22
open PySem PySem.Spec PyProof.Rows L2 Ol RZ
section
variable {P : Program} {w : World} {K : PySem.W.Frag} {mg : Str → Option Value} {base : Heap}

abbrev s__law_is_integer : Stmt := (topS 29)
theorem sc__law_is_integer : FnScope ["_law_thing"] ["_law_thing"] (defScope s__law_is_integer) := ⟨rfl, rfl, rfl, by decide +kernel, rfl, by decide +kernel, by decide +kernel⟩
theorem ok_law_is_integer {f : Addr} {fd : FuncData} (F : Fun K "_law_is_integer" "_law_is_integer" s__law_is_integer f fd) (T : BT mg) :
    FnOk P w K mg base CX0 1 f fd ["_law_thing"] (spPred Any isIntD) := by
  refine F.ok sc__law_is_integer (fun vs H Q E h => ?_) (fun cdv A outer s H vs Q E hr h => ?_)
  · obtain ⟨v, d, rfl, _⟩ := h
    rfl
  · obtain ⟨v, d, rfl, hd, hz, q⟩ := h
    have q' := q H (Ext.refl H)
    rw [isIntD_eq] at q'
    refine ⟨_, (pss_one (ps_ret (pe_and (pe_callB call_isi (by rfl) T.n_isinstance (by decide +kernel) (pa_cons (pv 0) (pa_cons (pe_bltn (v := .ty "int") (by rfl) T.n_int (by decide +kernel) rfl) pa_nil))) (pe_one (pe_not (pe_callB call_isi (by rfl) T.n_isinstance (by decide +kernel) (pa_cons (pv 0) (pa_cons (pe_bltn (v := .ty "bool") (by rfl) T.n_bool (by decide +kernel) rfl) pa_nil)))))))), ?_⟩
    refine ⟨_, rfl, _, _, _, _, _, rfl, .ty "int", ty_of hd, ki_int d, _, rfl, ?_⟩
    refine ite2 (fun h => ?_) (fun h => ?_)
    · refine ⟨_, rfl, _, _, _, _, _, rfl, .ty "bool", ty_of hd, ki_bool d, _, rfl, ?_⟩
      rw [h, Bool.true_and] at q'
      exact q'
    · rw [Bool.eq_false_iff.mpr h, Bool.false_and] at q'
      exact q'

abbrev s__law_is_name : Stmt := (topS 28)
theorem sc__law_is_name : FnScope ["_law_thing", "_law_sign"] ["_law_thing"] (defScope s__law_is_name) := ⟨rfl, rfl, rfl, by decide +kernel, rfl, by decide +kernel, by decide +kernel⟩
theorem dp_signs {K : PySem.W.Frag} {H : Hp} : ∀ l : List Nat, DpAll K H (l.map fun c => V.str ⟨#[c]⟩) (l.map fun c => PyData.str ⟨#[c]⟩)
  | [] => .nil
  | c :: l => .cons (.str _) (dp_signs l)
theorem signs_shaped : ∀ l : List Nat, (∀ c ∈ l, c < 128) → PyData.canLayAll0 (l.map fun c => PyData.str ⟨#[c]⟩) = true
  | [], _ => by simp [PyData.canLayAll0]
  | c :: l, h => by
    have h1 := h c List.mem_cons_self
    have e1 : PyData.canLay0 (.str ⟨#[c]⟩) = true := by
      simp only [PyData.canLay0, PyData.strOk]
      simp
      omega
    rw [List.map_cons, PyData.canLayAll0, e1, signs_shaped l fun x hx => h x (List.mem_cons_of_mem _ hx)]
    rfl
theorem signs_depth : ∀ l : List Nat, PyData.depthAll (l.map fun c => PyData.str ⟨#[c]⟩) = 0
  | [] => by simp [PyData.depthAll]
  | c :: l => by rw [List.map_cons, PyData.depthAll, signs_depth l]; simp [PyData.depth]
theorem list_shaped (l : List Nat) (h : ∀ c ∈ l, c < 128) : SeqAt.shaped (.list (l.map fun c => PyData.str ⟨#[c]⟩)) = true := by
  unfold SeqAt.shaped
  rw [PyData.canLay0, signs_shaped l h, PyData.depth, signs_depth l]
  rfl
theorem eqv_nil (l : List Nat) : PyData.eqv (.list (l.map fun c => PyData.str ⟨#[c]⟩)) (.list []) = l.isEmpty := by
  cases l with
  | nil => simp [PyData.eqv, PyData.eqvAll]
  | cons a l => simp [PyData.eqv, PyData.eqvAll]
theorem ok_law_is_name {f : Addr} {fd : FuncData} (F : Fun K "_law_is_name" "_law_is_name" s__law_is_name f fd) (T : BT mg) :
    FnOk P w K mg base CX0 1 f fd ["_law_thing"] (spPred Ok1 isNameD) := by
  refine F.ok sc__law_is_name (fun vs H Q E h => ?_) (fun cdv A outer s H vs Q E hr h => ?_)
  · obtain ⟨v, d, rfl, _⟩ := h
    rfl
  · obtain ⟨v, d, rfl, hd, hz, q⟩ := h
    refine ⟨_, (pss_cons (ps_if (PW.pt (pw_or (pt_not (pt_val (pe_callB call_isi (by rfl) T.n_isinstance (by decide +kernel) (pa_cons (pv 0) (pa_cons (pe_bltn (v := .ty "str") (by rfl) T.n_str (by decide +kernel) rfl) pa_nil))))) (pw_or1 (pt_not (pt_chain op_le op_le pe_int (pe_callB call_len_str (by rfl) T.n_len (by decide +kernel) (pa_cons (pv 0) pa_nil)) pe_int)))))
      (pss_one (ps_ret pe_bl))
      pss_nil)
    (pss_one (ps_ret (pe_cmpR (op_eqD hr.units) (pe_lc (own := [("_law_sign", 1)]) (g := gName 1) (tt := _) rfl sc__law_is_name.nd (pi_str (pv 0)) (blkOk_by (N := ["_law_thing", "_law_sign"]) (sc := defScope s__law_is_name) (by decide +kernel)) (fun _ _ _ _ _ => (pg_name (i := 1) sc__law_is_name.nd rfl (.inl rfl))) (fun _ _ _ _ _ => (pts_one (pt_cmpR op_notIn_sign (pv 1) pe_str (by rfl)))) (fun _ _ _ _ _ => (pv 1))) (pe_lst pa_nil) (nomark _))))), ?_⟩
    refine ⟨_, rfl, _, _, _, _, _, rfl, .ty "str", ty_of hd, ki_str d, _, rfl, ?_⟩
    refine ite2 (fun h => ?_) (fun h => ?_)
    · have q' := q H (Ext.refl H)
      rw [kS_not h] at q'
      exact iteT q'
    · obtain ⟨x, rfl, rfl⟩ := dq_str hd (kS_yes h)
      obtain ⟨hx, hc⟩ := hz x rfl
      have hx2 : x.length ≤ sizeLine := Nat.le_trans hx (by decide)
      have qx : Q (.bl (isNameS x)) H := q H (Ext.refl H)
      refine ⟨_, rfl, _, rfl, hx2, _, _, rfl, rfl, _, rfl, ?_⟩
      refine ite2 (fun h1 => ?_) (fun h1 => ?_)
      · refine ⟨_, _, rfl, rfl, _, rfl, ?_⟩
        have h1' : (1 : Int) ≤ (x.length : Int) := of_decide_eq_true h1
        refine ite2 (fun h2 => ?_) (fun h2 => ?_)
        · have h2' : ¬ (x.length : Int) ≤ 8 := by simpa using h2
          rw [isNameS_short (by omega)] at qx
          exact qx
        · have h2' : (x.length : Int) ≤ 8 := by simpa using h2
          rw [isNameS_long (by omega)] at qx
          refine ⟨_, rfl, x, rfl, fun D hD => ?_⟩
          refine lc_det walk_str (sg x) (fun i => !decide (x.cps.toList.getD i 0 ∈ abc.cps.toList)) (sg x) hD hx2 its_sg (fun _ _ => trivial)
            (fun i H' _ _ Q' q' => ⟨_, rfl, _, abc, rfl, rfl, _, rfl, q'⟩) (fun i H' _ _ _ Q' q' => ⟨_, rfl, q'⟩) ?_
          rw [signs_filter x fun c => !decide (c ∈ abc.cps.toList)]
          refine ⟨by decide, fun D2 hD2 => ?_⟩
          have nD : D ≠ D2 := fun z => by rw [← z, upd_same] at hD2; cases hD2
          have hs := list_shaped (x.cps.toList.filter fun c => !decide (c ∈ abc.cps.toList)) fun c hm => hc c (List.mem_filter.mp hm).1
          refine ⟨_, _, .lst (SqL.of (by rw [upd_ne nD, upd_same])) (dp_signs _), .lst (SqL.of upd_same) .nil, hs, by decide +kernel, ?_⟩
          rw [eqv_nil, filter_empty_all]
          have q2 := q (upd (upd H D (.lst ((x.cps.toList.filter fun c => !decide (c ∈ abc.cps.toList)).map fun c => V.str ⟨#[c]⟩))) D2 (.lst [])) ((Ext.new hD).trans (Ext.new hD2))
          have e2 : isNameD (.str x) = x.cps.toList.all fun c => decide (c ∈ abc.cps.toList) := isNameS_long (by omega)
          rw [e2] at q2
          exact q2
      · have h1' : ¬ (1 : Int) ≤ (x.length : Int) := by simpa using h1
        rw [isNameS_short (by omega)] at qx
        exact ⟨_, rfl, iteT qx⟩

theorem inV_words2 (x : Str) : inV (.str x) [.str "send", .str "take", .str "ended", .str "close"] = isWordS x := by
  show ((("send" : Str) == x) || ((("take" : Str) == x) || ((("ended" : Str) == x) || ((("close" : Str) == x) || false)))) = isWordS x
  unfold isWordS
  rw [Bool.eq_iff_iff]
  simp only [Bool.or_eq_true, beq_iff_eq, decide_eq_true_eq, Bool.or_false]
  constructor
  · rintro (h | h | h | h)
    · exact Or.inr (Or.inr (Or.inl h.symm))
    · exact Or.inr (Or.inr (Or.inr h.symm))
    · exact Or.inr (Or.inl h.symm)
    · exact Or.inl h.symm
  · rintro (h | h | h | h)
    · exact Or.inr (Or.inr (Or.inr h.symm))
    · exact Or.inr (Or.inr (Or.inl h.symm))
    · exact Or.inl h.symm
    · exact Or.inr (Or.inl h.symm)
theorem not_int {d : PyData} (h : (!isIntD d) = true) : isNumD d = false := by
  cases d with
  | int i => cases h
  | _ => rfl
theorem yes_int {d : PyData} (h : ¬ (!isIntD d) = true) : isIntD d = true := by
  cases e : isIntD d with
  | true => rfl
  | false => rw [e] at h; exact absurd rfl h

abbrev s__law_is_arm : Stmt := (topS 33)
theorem sc__law_is_arm : FnScope ["_law_thing"] ["_law_thing"] (defScope s__law_is_arm) := ⟨rfl, rfl, rfl, by decide +kernel, rfl, by decide +kernel, by decide +kernel⟩
theorem ok_law_is_arm {f : Addr} {fd : FuncData} (F : Fun K "_law_is_arm" "_law_is_arm" s__law_is_arm f fd) (T : BT mg)
    (C6 : Ca P w K mg base 1 "_law_is_name" ["_law_thing"] (spPred Ok1 isNameD)) (C7 : Ca P w K mg base 1 "_law_is_integer" ["_law_thing"] (spPred Any isIntD)) :
    FnOk P w K mg base CX0 2 f fd ["_law_thing"] (spPred OkT isArmD) := by
  refine F.ok sc__law_is_arm (fun vs H Q E h => ?_) (fun cdv A outer s H vs Q E hr h => ?_)
  · obtain ⟨v, d, rfl, _⟩ := h
    rfl
  · obtain ⟨v, d, rfl, hd, hz, q⟩ := h
    refine ⟨_, (pss_cons (ps_if (PW.pt (pw_or (pt_not (pt_val (pe_callB call_isi (by rfl) T.n_isinstance (by decide +kernel) (pa_cons (pv 0) (pa_cons (pe_bltn (v := .ty "tuple") (by rfl) T.n_tuple (by decide +kernel) rfl) pa_nil))))) (pw_or1 (pt_cmpR op_notIn_seq (pe_callB call_len_seq (by rfl) T.n_len (by decide +kernel) (pa_cons (pv 0) pa_nil)) (pe_tup (pa_cons pe_int (pa_cons pe_int pa_nil))) (by rfl)))))
      (pss_one (ps_ret pe_bl))
      pss_nil)
    (pss_cons (ps_if (PW.pt (pw_or (pt_not (pt_val (pe_ca C7 (hr.mono (by decide)) (by rfl) (pa_cons (pe_ix ix_tup (pv 0) (pe_un un_neg pe_int) (fun _ _ => rfl)) pa_nil)))) (pw_or (pt_cmpR op_lt (pe_ix ix_tup (pv 0) (pe_un un_neg pe_int) (fun _ _ => rfl)) pe_int (nomark _)) (pw_or1 (pt_not (pt_val (pe_callB call_isi (by rfl) T.n_isinstance (by decide +kernel) (pa_cons (pe_ix ix_tup (pv 0) pe_int (fun _ _ => rfl)) (pa_cons (pe_bltn (v := .ty "str") (by rfl) T.n_str (by decide +kernel) rfl) pa_nil)))))))))
      (pss_one (ps_ret pe_bl))
      pss_nil)
    (pss_cons (ps_if (pt_cmpR op_eq (pe_callB call_len_seq (by rfl) T.n_len (by decide +kernel) (pa_cons (pv 0) pa_nil)) pe_int (nomark _))
      (pss_one (ps_ret (pe_cmpR op_eq (pe_ix ix_tup (pv 0) pe_int (fun _ _ => rfl)) pe_str (nomark _))))
      pss_nil)
    (pss_one (ps_ret (pe_and (pe_cmpR op_in_seq (pe_ix ix_tup (pv 0) pe_int (fun _ _ => rfl)) (pe_tup (pa_cons pe_str (pa_cons pe_str (pa_cons pe_str (pa_cons pe_str pa_nil))))) (by rfl)) (pe_one (pe_ca C6 (hr.mono (by decide)) (by rfl) (pa_cons (pe_ix ix_tup (pv 0) pe_int (fun _ _ => rfl)) pa_nil))))))))), ?_⟩
    refine ⟨_, rfl, _, _, _, _, _, rfl, .ty "tuple", ty_of hd, ki_tuple d, _, rfl, ?_⟩
    refine ite2 (fun h => ?_) (fun h => ?_)
    · have q' := q H (Ext.refl H)
      rw [kT_not h] at q'
      exact iteT q'
    · obtain ⟨a, xs, ds, rfl, rfl, ha, t⟩ := dq_tup hd (kT_yes h)
      have hl := t.len
      refine ⟨_, rfl, a, _, rfl, .inr (SqT.of ha), by decide, fun p hp => ⟨p, _, rfl, .inr (SqT.of upd_same), rfl, rfl, _, rfl, ?_⟩⟩
      have e1 : Ext H (upd H p (.tup [.int 2, .int 3])) := Ext.new hp
      by_cases h2 : xs.length = 2
      · obtain ⟨v0, v1, d0, d1, rfl, rfl, t0, t1⟩ := two_of t h2
        have ea : isArmD (.tuple [d0, d1]) = (isElseD d0 && isNumD d1) := rfl
        rw [ea] at q
        refine iteF ?_
        refine ⟨_, rfl, _, rfl, a, _, _, _, rfl, rfl, SqT.of (e1 _ _ ha), rfl, v1, d1, rfl, t1.up e1, trivial, fun H2 e2 => ⟨_, rfl, ?_⟩⟩
        have e12 := e1.trans e2
        refine ite2 (fun g0 => ?_) (fun g0 => ?_)
        · have z := q H2 e12
          rw [not_int g0, Bool.and_false] at z
          exact iteT z
        · obtain ⟨i, rfl, rfl⟩ := dq_int t1 (yes_int g0)
          refine ⟨_, rfl, _, rfl, a, _, _, _, rfl, rfl, SqT.of (e12 _ _ ha), rfl, _, _, rfl, rfl, _, rfl, ?_⟩
          refine ite2 (fun g1 => ?_) (fun g1 => ?_)
          · have z := q H2 e12
            have e0 : isNumD (.int i) = false := decide_eq_false (by have := of_decide_eq_true g1; omega)
            rw [e0, Bool.and_false] at z
            exact iteT z
          · have e0 : isNumD (.int i) = true := decide_eq_true (by
              have : ¬ i < 0 := fun y => g1 (decide_eq_true y)
              omega)
            rw [e0, Bool.and_true] at q
            refine ⟨_, rfl, a, _, _, _, rfl, rfl, SqT.of (e12 _ _ ha), rfl, _, _, _, _, _, rfl, .ty "str", ty_of (t0.up e12), ki_str d0, _, rfl, ?_⟩
            refine ite2 (fun h0 => ?_) (fun h0 => ?_)
            · have z := q H2 e12
              have h0' : ¬ kS d0 = true := fun y => by rw [y] at h0; cases h0
              rw [(kS_no h0').2.1] at z
              exact z
            · obtain ⟨x, rfl, rfl⟩ := dq_str t0 (kS_yes h0)
              refine ⟨_, rfl, a, _, rfl, .inr (SqT.of (e12 _ _ ha)), rfl, _, rfl, ?_⟩
              refine iteT ?_
              refine ⟨_, rfl, a, _, _, _, rfl, rfl, SqT.of (e12 _ _ ha), rfl, rfl, ?_⟩
              have z := q H2 e12
              have ez : isElseD (.str x) = decide (V.str x = V.str "else") := by
                show decide (x = "else") = _
                rw [Bool.eq_iff_iff, decide_eq_true_eq, decide_eq_true_eq]
                exact ⟨fun y => by rw [y], fun y => by injection y⟩
              rw [ez] at z
              exact z
      · by_cases h3 : xs.length = 3
        · obtain ⟨v0, v1, v2, d0, d1, d2, rfl, rfl, t0, t1, t2⟩ := three_of t h3
          have ea : isArmD (.tuple [d0, d1, d2]) = (isWordD d0 && (isNameD d1 && isNumD d2)) := rfl
          rw [ea] at q
          refine iteF ?_
          refine ⟨_, rfl, _, rfl, a, _, _, _, rfl, rfl, SqT.of (e1 _ _ ha), rfl, v2, d2, rfl, t2.up e1, trivial, fun H2 e2 => ⟨_, rfl, ?_⟩⟩
          have e12 := e1.trans e2
          refine ite2 (fun g0 => ?_) (fun g0 => ?_)
          · have z := q H2 e12
            rw [not_int g0, Bool.and_false, Bool.and_false] at z
            exact iteT z
          · obtain ⟨i, rfl, rfl⟩ := dq_int t2 (yes_int g0)
            refine ⟨_, rfl, _, rfl, a, _, _, _, rfl, rfl, SqT.of (e12 _ _ ha), rfl, _, _, rfl, rfl, _, rfl, ?_⟩
            refine ite2 (fun g1 => ?_) (fun g1 => ?_)
            · have z := q H2 e12
              have e0 : isNumD (.int i) = false := decide_eq_false (by have := of_decide_eq_true g1; omega)
              rw [e0, Bool.and_false, Bool.and_false] at z
              exact iteT z
            · have e0 : isNumD (.int i) = true := decide_eq_true (by
                have : ¬ i < 0 := fun y => g1 (decide_eq_true y)
                omega)
              rw [e0, Bool.and_true] at q
              refine ⟨_, rfl, a, _, _, _, rfl, rfl, SqT.of (e12 _ _ ha), rfl, _, _, _, _, _, rfl, .ty "str", ty_of (t0.up e12), ki_str d0, _, rfl, ?_⟩
              refine ite2 (fun h0 => ?_) (fun h0 => ?_)
              · have z := q H2 e12
                have h0' : ¬ kS d0 = true := fun y => by rw [y] at h0; cases h0
                rw [(kS_no h0').1, Bool.false_and] at z
                exact z
              · obtain ⟨x, rfl, rfl⟩ := dq_str t0 (kS_yes h0)
                refine ⟨_, rfl, a, _, rfl, .inr (SqT.of (e12 _ _ ha)), rfl, _, rfl, ?_⟩
                refine iteF ?_
                refine ⟨_, rfl, a, _, _, _, rfl, rfl, SqT.of (e12 _ _ ha), rfl, by decide, fun p3 hp3 => ⟨p3, _, rfl, .inr (SqT.of upd_same), rfl, rfl, ?_⟩⟩
                have ew : (if false = true then !inV (.str x) [.str "send", .str "take", .str "ended", .str "close"] else inV (.str x) [.str "send", .str "take", .str "ended", .str "close"]) = isWordD (.str x) := by
                  rw [if_neg Bool.false_ne_true, inV_words2]
                  rfl
                have e3 : Ext H2 (upd H2 p3 (.tup [.str "send", .str "take", .str "ended", .str "close"])) := Ext.new hp3
                have e123 := e12.trans e3
                refine ⟨_, rfl, ?_⟩
                rw [ew]
                refine ite2 (fun g2 => ?_) (fun g2 => ?_)
                · rw [g2, Bool.true_and] at q
                  refine ⟨_, rfl, a, _, _, _, rfl, rfl, SqT.of (e123 _ _ ha), rfl, v1, d1, rfl, t1.up e123, hz _ _ rfl (by simp), fun H4 e4 => ?_⟩
                  exact q H4 (e123.trans e4)
                · have z := q _ e123
                  rw [Bool.eq_false_iff.mpr g2, Bool.false_and] at z
                  exact z
        · have en : inV (V.int (xs.length : Int)) [V.int 2, V.int 3] = false := by
            show (((2 : Int) == (xs.length : Int)) || (((3 : Int) == (xs.length : Int)) || false)) = false
            rw [Bool.or_false, Bool.or_eq_false_iff]
            constructor
            · exact beq_eq_false_iff_ne.mpr (by omega)
            · exact beq_eq_false_iff_ne.mpr (by omega)
          have z := q _ e1
          rw [isArm_len (by omega) (by omega)] at z
          rw [if_pos rfl, en]
          exact z
end
end K22

set_option Elab.async false
set_option linter.all false
set_option maxRecDepth 100000
set_option maxHeartbeats 4000000
namespace K22
open PySem PySem.Spec PyProof.Rows L2 Ol RZ
open TL (tl)
/-- a place by itself -/
structure GPl (p : Place) : Prop where
  mode : p.1 = "first" ∨ p.1 = "any"
  arms : ∀ a ∈ p.2, GArm a
  few : p.2.length ≤ 5
structure GPs (ps : List Place) : Prop where
  ne : ps ≠ []
  few : ps.length ≤ 6
  ok : ∀ p ∈ ps, GPl p
/-- the first goal that is no place -/
def bad (n : Nat) (as : List Arm) : Option Nat := (as.find? fun a => decide (n ≤ a.2)).map (·.2)
def badP (n : Nat) (ps : List Place) : Option Nat := bad n (ps.flatMap (·.2))
def two (p : Place) : Bool := decide (1 < (p.2.filter fun a => a.1.isNone).length)
/-- the first place with two arms for else -/
def twoP (ps : List Place) : Option Nat := ps.findIdx? two
theorem bad_app {n : Nat} {as bs : List Arm} (h : bad n as = none) : bad n (as ++ bs) = bad n bs := by
  unfold bad at *
  rw [List.find?_append]
  rw [Option.map_eq_none_iff] at h
  rw [h, Option.none_or]
theorem bad_one {n : Nat} {a : Arm} : bad n [a] = if n ≤ a.2 then some a.2 else none := by
  unfold bad
  by_cases h : n ≤ a.2
  · rw [if_pos h, List.find?_cons_of_pos (by exact decide_eq_true h)]
    rfl
  · rw [if_neg h, List.find?_cons_of_neg (by exact fun z => h (of_decide_eq_true z))]
    rfl
theorem bad_none {n : Nat} {as : List Arm} (h : bad n as = none) : ∀ a ∈ as, a.2 < n := by
  intro a ha
  unfold bad at h
  rw [Option.map_eq_none_iff, List.find?_eq_none] at h
  have := h a ha
  simp only [decide_eq_true_eq] at this
  omega
theorem bad_some {n g : Nat} {as bs : List Arm} (h : bad n as = some g) : bad n (as ++ bs) = some g := by
  unfold bad at *
  rw [List.find?_append]
  cases hf : as.find? fun a => decide (n ≤ a.2) with
  | none => rw [hf] at h; cases h
  | some a => rw [hf] at h; exact h
theorem flat_split {ps : List Place} {i : Nat} (hi : i < ps.length) : ps.flatMap (·.2) = (ps.take i).flatMap (·.2) ++ (ps[i].2 ++ (ps.drop (i + 1)).flatMap (·.2)) := by
  conv => lhs; rw [← List.take_append_drop i ps, List.drop_eq_getElem_cons hi, List.flatMap_append, List.flatMap_cons]
theorem badP_step {n : Nat} {ps : List Place} {i : Nat} (hi : i < ps.length) (h : badP n (ps.take i) = none) (h2 : bad n ps[i].2 = none) : badP n (ps.take (i + 1)) = none := by
  unfold badP at *
  rw [List.take_add_one, List.getElem?_eq_getElem hi, Option.toList_some, List.flatMap_append, bad_app h]
  simpa using h2
theorem bad_step {n : Nat} {as : List Arm} {j : Nat} (hj : j < as.length) (h : bad n (as.take j) = none) (h2 : ¬ n ≤ as[j].2) : bad n (as.take (j + 1)) = none := by
  rw [List.take_add_one, List.getElem?_eq_getElem hj, Option.toList_some, bad_app h, bad_one, if_neg h2]
theorem bad_hit {n : Nat} {as : List Arm} {j : Nat} (hj : j < as.length) (h : bad n (as.take j) = none) (h2 : n ≤ as[j].2) : bad n as = some as[j].2 := by
  have e : as = (as.take j ++ [as[j]]) ++ as.drop (j + 1) := by
    rw [List.append_assoc]
    conv => lhs; rw [← List.take_append_drop j as, List.drop_eq_getElem_cons hj]
    rfl
  have z : bad n ((as.take j ++ [as[j]]) ++ as.drop (j + 1)) = some as[j].2 := bad_some (by rw [bad_app h, bad_one, if_pos h2])
  rw [← e] at z
  exact z
theorem badP_hit {n g : Nat} {ps : List Place} {i : Nat} (hi : i < ps.length) (h : badP n (ps.take i) = none) (h2 : bad n ps[i].2 = some g) : badP n ps = some g := by
  unfold badP at *
  rw [flat_split hi, bad_app h]
  exact bad_some h2
theorem badP_none {n : Nat} {ps : List Place} (h : badP n ps = none) : ∀ p ∈ ps, ∀ a ∈ p.2, a.2 < n := fun p hp a ha =>
  bad_none h a (List.mem_flatMap.mpr ⟨p, hp, ha⟩)
theorem twoP_none {ps : List Place} (h : twoP ps = none) : ∀ p ∈ ps, two p = false := by
  unfold twoP at h
  rw [List.findIdx?_eq_none_iff] at h
  exact fun p hp => by simpa using h p hp
theorem twoP_hit {ps : List Place} {i : Nat} (hi : i < ps.length) (h : ∀ (k : Nat) (hk : k < ps.length), k < i → two ps[k] = false) (h2 : two ps[i] = true) : twoP ps = some i := by
  unfold twoP
  rw [List.findIdx?_eq_some_iff_getElem]
  refine ⟨hi, h2, fun j hj => ?_⟩
  have := h j (by omega) hj
  simp [this]
/-- places that do -/
theorem pls_of {ps : List Place} (h : GPs ps) (hb : badP ps.length ps = none) (ht : twoP ps = none) : Pls ps where
  ne := h.ne
  few := h.few
  ok := fun p hp => ⟨(h.ok p hp).mode, fun a ha => ⟨(h.ok p hp).arms a ha, badP_none hb p hp a ha⟩, by
    have z := of_decide_eq_false (twoP_none ht p hp)
    omega, (h.ok p hp).few⟩
theorem RzP.up {E : XK} {H H' : Hp} {R : Addr} {fld : Str} {x : V} (h : RzP E H R fld x) (e : Ext H H') : RzP E H' R fld x := fun d H2 e2 hd => h d H2 (e.trans e2) hd
section
variable {P : Program} {w : World} {K : PySem.W.Frag} {mg : Str → Option Value} {base : Heap} {C NP TE : Addr}
def spCheckX (C NP TE : Addr) : Sp := fun vs H Q E => ∃ (p dx t : Addr) (fs : List (Str × V)) (xs : List V) (ps : List Place), vs = [.ref p] ∧ H p = some (.ins C dx fs) ∧ fs.lookup ("_places" : Str) = some (.ref t) ∧ fs.lookup ("_check" : Str) = none ∧ H t = some (.tup xs) ∧ DqAll H xs (ps.map placeD) ∧ GPs ps ∧
  (∀ g : Nat, badP ps.length ps = some g → RzP E H NP "place" (.int (g : Int))) ∧ (badP ps.length ps = none → (∀ i : Nat, twoP ps = some i → RzP E H TE "place" (.int (i : Int))) ∧ (twoP ps = none → ∀ H', Ext H H' → Q .non H'))
theorem ok_checkX {f : Addr} {fd : FuncData} (F : Fun K "_check" "Program._check" (cP 1) f fd) (T : BT mg) (L : PT K mg C) (CE : Ca P w K mg base 1 "is_else" ["arm"] spElse)
    (TP : XT K mg "NoPlace" "place" NP) (IP : XI P w K mg base "place" NP) (TT : XT K mg "TwoElse" "place" TE) (IT : XI P w K mg base "place" TE) :
    FnOk P w K mg base (L2N.CX P w) 3 f fd ["self"] (spCheckX C NP TE) := by
  obtain ⟨fI, fdI, FI, iC, tI, bI⟩ := IP.has
  obtain ⟨fJ, fdJ, FJ, iJ, tJ, bJ⟩ := IT.has
  refine okXN F sc_check (fun vs H Q E h => ?_) (fun cdv A outer s H vs Q E hr h => ?_)
  · obtain ⟨p, dx, t, fs, xs, ps, rfl, _⟩ := h
    rfl
  · obtain ⟨p, dx, t, fs, xs, ps, rfl, hp, hl, _, ht, hx, ok, q1, q2⟩ := h
    refine ⟨_, (pss_cons (ps_for (passes_of rfl) rfl (pi_tup (pe_fld (pv 0) rfl)) (pg_tup (by rfl) (pgs_cons (pg_name (i := 1) sc_check.nd rfl (.inl rfl)) (pgs_cons (pg_name (i := 2) sc_check.nd rfl (.inl rfl)) pgs_nil)))
        (pss_one (ps_for (passes_of rfl) rfl (pi_tup (pv 2)) (pg_name (i := 3) sc_check.nd rfl (.inl rfl))
          (pss_one (ps_if (pt_cmpR op_ge (pe_ix ix_tup (pv 3) (pe_un un_neg pe_int) (fun _ _ => rfl)) (pe_callB call_len_seq (by rfl) T.n_len (by decide +kernel) (pa_cons (pe_fld (pv 0) rfl) pa_nil)) (nomark _)) (pss_one (L2N.ps_raise rfl (L2N.takes_of rfl rfl rfl rfl) (pmk_oexN TP.ox iC tI FI (hr.mono (by decide)) bI .nil pass0 (by rfl) TP.g (pa_cons (pe_ix ix_tup (pv 3) (pe_un un_neg pe_int) (fun _ _ => rfl)) pa_nil)))) pss_nil)))))
      (pss_one (ps_for (passes_of rfl) rfl (pi_enumT (by rfl) L.n_enum (pa_cons (pe_fld (pv 0) rfl) pa_nil)) (pg_tup (by rfl) (pgs_cons (pg_name (i := 4) sc_check.nd rfl (.inl rfl)) (pgs_cons (pg_tup (by rfl) (pgs_cons (pg_name (i := 1) sc_check.nd rfl (.inl rfl)) (pgs_cons (pg_name (i := 2) sc_check.nd rfl (.inl rfl)) pgs_nil))) pgs_nil)))
        (pss_one (ps_if (pt_cmpR op_gt (pe_callB call_len_seq (by rfl) T.n_len (by decide +kernel) (pa_cons (pe_lc (own := [("arm", 3)]) (g := gName 3) rfl sc_check.nd (pi_tup (pv 2)) (blkOk_by (N := nChk) (sc := defScope (cP 1)) (by decide +kernel)) (fun _ _ _ _ _ => pg_name (i := 3) sc_check.nd rfl (.inl rfl)) (fun _ _ _ _ _ => pts_one (pt_val (pe_ca CE (hr.mono (by decide)) (by rfl) (pa_cons (pv 3) pa_nil)))) (fun _ _ _ _ _ => pv 3)) pa_nil)) pe_int (nomark _)) (pss_one (L2N.ps_raise rfl (L2N.takes_of rfl rfl rfl rfl) (pmk_oexN TT.ox iJ tJ FJ (hr.mono (by decide)) bJ .nil pass0 (by rfl) TT.g (pa_cons (pv 4) pa_nil)))) pss_nil))))), ?_⟩
    have lx : xs.length = ps.length := by rw [hx.len, List.length_map]
    refine ⟨_, rfl, p, C, dx, _, _, rfl, hp, L.cl, L.nP, hl, t, rfl, ⟨_, SqT.of ht⟩, ?_⟩
    refine for_tup (xs := xs) (fun i σ H' => ∃ s1 s2 s3, σ = [some (.ref p), s1, s2, s3, none] ∧ H' = H ∧ badP ps.length (ps.take i) = none)
      ⟨none, none, none, rfl, rfl, rfl⟩ (fun i σ H' _ ⟨_, _, _, _, e, _⟩ => by rw [e]; exact SqT.of ht) ?_ ?_
    · rintro i x σ H1 hxi ⟨s1, s2, s3, rfl, rfl, hb⟩
      have hi : i < ps.length := by have := (List.getElem?_eq_some_iff.mp hxi).1; omega
      obtain ⟨x', hx', dx'⟩ := DqAll_get hx i (placeD ps[i]) (by rw [List.getElem?_map, List.getElem?_eq_getElem hi]; rfl)
      rw [hxi] at hx'
      cases hx'
      obtain ⟨a, t2, ys, rfl, ha, ht2, hys⟩ := place_inv dx'
      have gp := ok.ok _ (List.getElem_mem hi)
      have ly : ys.length = ps[i].2.length := by rw [hys.len, List.length_map]
      refine ⟨a, _, rfl, SqT.of ha, rfl, _, _, rfl, _, _, rfl, rfl, ?_⟩
      refine ⟨_, rfl, t2, rfl, ⟨_, SqT.of ht2⟩, ?_⟩
      refine for_tup (xs := ys) (fun j σ H' => ∃ s3, σ = [some (.ref p), some (.str ps[i].1), some (.ref t2), s3, none] ∧ H' = H1 ∧ bad ps.length (ps[i].2.take j) = none)
        ⟨_, rfl, rfl, rfl⟩ (fun j σ H' _ ⟨_, _, e, _⟩ => by rw [e]; exact SqT.of ht2) ?_ ?_
      · rintro j y σ H2 hyj ⟨s3, rfl, rfl, hbj⟩
        have hj : j < ps[i].2.length := by have := (List.getElem?_eq_some_iff.mp hyj).1; omega
        obtain ⟨y', hy', dy'⟩ := DqAll_get hys j (armD ps[i].2[j]) (by rw [List.getElem?_map, List.getElem?_eq_getElem hj]; rfl)
        rw [hyj] at hy'
        cases hy'
        obtain ⟨t3, zs, rfl, h3, l3, _⟩ := arm_inv dy'
        refine ⟨_, rfl, _, rfl, t3, _, _, _, rfl, rfl, SqT.of h3, l3, _, rfl, p, C, dx, _, _, rfl, hp, L.cl, L.nP, hl, t, _, rfl, .inr (SqT.of ht), _, _, rfl, rfl, _, rfl, ?_⟩
        refine ite2 (fun g => ?_) (fun g => ?_)
        · have g' := of_decide_eq_true g
          have hn : ps.length ≤ ps[i].2[j].2 := by omega
          have rz := q1 _ (badP_hit hi hb (bad_hit hj hbj hn))
          refine ⟨_, rfl, _, rfl, t3, _, _, _, rfl, rfl, SqT.of h3, l3, by show 1 ≤ 1000; decide, fun ax hax => ?_⟩
          refine ⟨ax, _, rfl, upd_same, fun dx' H5 hdx nda hk hA hD => ?_⟩
          rw [upd_ne nda] at hdx
          refine ⟨rfl, dx', _, hA, hD, hdx, rz dx' _ (fun b o z => ?_) upd_same⟩
          have nb1 : b ≠ ax := fun y => by rw [y, hax] at z; cases z
          have nb2 : b ≠ dx' := fun y => by rw [y, hdx] at z; cases z
          rw [upd_ne nb2, del_ne nb1, hk b nb1 nb2, upd_ne nb1]
          exact z
        · have g' := of_decide_eq_false (Bool.eq_false_iff.mpr g)
          exact ⟨_, rfl, rfl, bad_step hj hbj (by omega)⟩
      · rintro σ H2 ⟨s3, rfl, rfl, hbj⟩
        rw [ly, List.take_length] at hbj
        exact ⟨_, _, _, rfl, rfl, badP_step hi hb hbj⟩
    · rintro σ H1 ⟨s1, s2, s3, rfl, rfl, hb⟩
      rw [lx, List.take_length] at hb
      obtain ⟨q2, q⟩ := q2 hb
      refine ⟨_, rfl, p, C, dx, _, _, rfl, hp, L.cl, L.nP, hl, t, _, rfl, SqT.of ht, ?_⟩
      refine for_it (walk_enumT (xs := xs)) (fun i σ H' => ∃ s1 s2 s3 s4, σ = [some (.ref p), s1, s2, s3, s4] ∧ Ext H1 H' ∧ ∀ (k : Nat) (hk : k < ps.length), k < i → two ps[k] = false)
        ⟨_, _, _, _, rfl, Ext.refl _, fun k _ hk => absurd hk (Nat.not_lt_zero k)⟩ (fun i σ H' _ ⟨_, _, _, _, _, e, _⟩ => SqT.of (e _ _ ht)) ?_ ?_
      · rintro i v σ H2 H3 hi ⟨s1, s2, s3, s4, rfl, e, hts⟩ ⟨T', y1, y2, rfl, hT, rfl, g1, g2⟩
        have hi2 : i < ps.length := by omega
        obtain ⟨x', hx', dx'⟩ := DqAll_get hx i (placeD ps[i]) (by rw [List.getElem?_map, List.getElem?_eq_getElem hi2]; rfl)
        cases g1
        dsimp only at g2
        rw [hx'] at g2
        cases g2
        obtain ⟨a, t2, ys, rfl, ha, ht2, hys⟩ := place_inv dx'
        have gp := ok.ok _ (List.getElem_mem hi2)
        have ly : ys.length = ps[i].2.length := by rw [hys.len, List.length_map]
        have eT := Ext.new (o := .tup [.int (i : Int), .ref a]) hT
        have e2 := e.trans eT
        refine ⟨T', _, rfl, SqT.of upd_same, rfl, _, _, rfl, _, _, rfl, a, _, rfl, SqT.of (e2 _ _ ha), rfl, _, _, rfl, _, _, rfl, rfl, rfl, ?_⟩
        refine ⟨_, rfl, t2, rfl, ⟨_, SqT.of (e2 _ _ ht2)⟩, fun D hD => ?_⟩
        refine lc1_acc (walk_tup (xs := ys)) (fun k zs _ => zs.length = ((ps[i].2.take k).filter fun a => a.1.isNone).length) (fun _ _ _ _ _ h => h) rfl hD
          (fun k zs _ h => by rw [h]; exact Nat.lt_of_le_of_lt (Nat.le_trans (List.length_filter_le ..) (by rw [List.length_take]; have := gp.few; omega : _ ≤ 10)) (by decide)) (fun H' e' => SqT.of ((e2.trans e') _ _ ht2)) ?_ ?_
        · rintro k y Hi H' zs hk e' hy ⟨rfl, hyk⟩ hz QY QN kY kN
          have hk2 : k < ps[i].2.length := by omega
          obtain ⟨y', hy', dy'⟩ := DqAll_get hys k (armD ps[i].2[k]) (by rw [List.getElem?_map, List.getElem?_eq_getElem hk2]; rfl)
          rw [hyk] at hy'
          cases hy'
          refine ⟨rfl, _, rfl, y, ps[i].2[k], rfl, dy'.up (e2.trans e'), _, rfl, ?_⟩
          refine ite2 (fun g => ?_) (fun g => ?_)
          · refine ⟨_, rfl, kY _ _ (Ext.refl _) ?_⟩
            rw [List.take_add_one, List.getElem?_eq_getElem hk2, Option.toList_some, List.filter_append, List.length_append, List.length_append, hz, List.filter_cons_of_pos (p := fun a : Arm => a.1.isNone) (a := ps[i].2[k]) g]
            rfl
          · refine kN _ (Ext.refl _) ?_
            rw [List.take_add_one, List.getElem?_eq_getElem hk2, Option.toList_some, List.filter_append, List.length_append, hz, List.filter_cons_of_neg (p := fun a : Arm => a.1.isNone) (a := ps[i].2[k]) g]
            rfl
        · rintro H4 zs e4 h4 hz
          rw [ly, List.take_length] at hz
          have e24 := e2.trans e4
          refine ⟨D, _, rfl, .inl (SqL.of h4), _, _, rfl, rfl, _, rfl, ?_⟩
          refine ite2 (fun g => ?_) (fun g => ?_)
          · have g' := of_decide_eq_true g
            have tw : two ps[i] = true := decide_eq_true (by omega)
            have rz := (q2 i (twoP_hit hi2 hts tw)).up e24
            refine ⟨_, rfl, by show 1 ≤ 1000; decide, fun ax hax => ?_⟩
            refine ⟨ax, _, rfl, upd_same, fun dx' H5 hdx nda hk hA hD => ?_⟩
            rw [upd_ne nda] at hdx
            refine ⟨rfl, dx', _, hA, hD, hdx, rz dx' _ (fun b o z => ?_) upd_same⟩
            have nb1 : b ≠ ax := fun y => by rw [y, hax] at z; cases z
            have nb2 : b ≠ dx' := fun y => by rw [y, hdx] at z; cases z
            rw [upd_ne nb2, del_ne nb1, hk b nb1 nb2, upd_ne nb1]
            exact z
          · have g' := of_decide_eq_false (Bool.eq_false_iff.mpr g)
            have tw : two ps[i] = false := decide_eq_false (by omega)
            refine ⟨_, _, _, _, rfl, e24, fun k hk hki => ?_⟩
            by_cases ek : k = i
            · subst ek
              exact tw
            · exact hts k hk (by omega)
      · rintro σ H2 ⟨s1, s2, s3, s4, rfl, e, hts⟩
        refine q ?_ _ e
        unfold twoP
        rw [List.findIdx?_eq_none_iff]
        intro p hp
        obtain ⟨k, hk, rfl⟩ := List.mem_iff_getElem.mp hp
        simp [hts k hk (by omega)]
end
end K22

set_option Elab.async false
set_option linter.all false
set_option maxRecDepth 100000
set_option maxHeartbeats 4000000
namespace K22
open PySem PySem.Spec PyProof.Rows L2 Ol RZ
open TL (tl)
section
variable {P : Program} {w : World} {K : PySem.W.Frag} {mg : Str → Option Value} {base : Heap} {C NP TE W : Addr}
/-- what Program does with a value -/
def InitOf (C W NP TE : Addr) (H0 : Hp) (v : V) (E : XK) (Ok : List Place → Prop) : Prop :=
  (RowOf C (RPlace C) H0 v false ∧ RzP E H0 W "place" (.int 0)) ∨ (∃ a, v = .ref a ∧ LT H0 a [] ∧ RzP E H0 W "place" (.int 0)) ∨
  (∃ (a : Addr) (xs : List V) (hs : List HPl) (ps : List Place), v = .ref a ∧ LT H0 a xs ∧ DqAll H0 xs (hs.map hD) ∧ ps = hs.map (·.1) ∧ GPs ps ∧ RowOf C (RPlace C) H0 v true ∧
    (∀ g : Nat, badP ps.length ps = some g → RzP E H0 NP "place" (.int (g : Int))) ∧ (badP ps.length ps = none → (∀ i : Nat, twoP ps = some i → RzP E H0 TE "place" (.int (i : Int))) ∧ (twoP ps = none → Ok ps)))
def spInitX (C W NP TE : Addr) : Sp := fun vs H Q E => ∃ (H0 : Hp) (p dx : Addr) (v : V), vs = [.ref p, v] ∧ H0 p = none ∧ Ext H0 H ∧ H p = some (.ins C dx []) ∧
  InitOf C W NP TE H0 v E fun ps => ∀ H', Ext H0 H' → ProgAt C H' p ps → Q .non H'
theorem row_empty {H : Hp} {a : Addr} (h : LT H a []) : RowOf C (RPlace C) H (.ref a) true := .inl ⟨a, [], [], rfl, h, by decide, rfl, fun i x c y => (by simp at y), rfl⟩
/-- an error with a place is raised -/
theorem rz_end {R p : Addr} {H0 H H1 : Hp} {x : V} {E : XK} (h : RzP E H0 R "place" x) (e : Ext H0 H1) {Q : XK} (hq : ∀ d H', E (.ref R) (some d) H' → Q (.ref R) (some d) H') : RzP Q H1 R "place" x :=
  fun d H' e' hd => hq _ _ (h d H' (e.trans e') hd)
theorem ok_initX {f fP : Addr} {fd : FuncData} (F : Fun K "__init__" "Program.__init__" (cP 0) f fd) (T : BT mg) (L : PT K mg C) (gP : mg "is_place" = some (.ref fP))
    (CR : Ca P w K mg base 6 "is_row_of" ["thing", "is_part"] (spRowA C (RPlace C) fP)) (CE : Ca P w K mg base 1 "is_else" ["arm"] spElse) (MC : CmN P w K mg base C 3 "_check" ["self"] (spCheckX C NP TE))
    (TW : XT K mg "Wrong" "place" W) (IW : XI P w K mg base "place" W) :
    FnOk P w K mg base (L2N.CX P w) 8 f fd ["self", "places"] (spInitX C W NP TE) := by
  obtain ⟨fI, fdI, FI, iC, tI, bI⟩ := IW.has
  refine okXN F sc_prog (fun vs H Q E h => ?_) (fun cdv A outer s H vs Q E hr h => ?_)
  · obtain ⟨H0, p, dx, v, rfl, _⟩ := h
    rfl
  · obtain ⟨H0, p, dx, v, rfl, hp0, e0, hp, hI⟩ := h
    refine ⟨_, (pss_cons (ps_if (PW.pt (pw_or (pt_not (pt_val (pe_ca CR (hr.mono (by decide)) (by rfl) (pa_cons (pv 1) (pa_cons (pe_glob (v := .ref fP) rfl gP rfl) pa_nil))))) (pw_or1 (pt_cmpR op_eq (pe_callB call_len_seq (by rfl) T.n_len (by decide +kernel) (pa_cons (pv 1) pa_nil)) pe_int (nomark _))))) (pss_one (L2N.ps_raise rfl (L2N.takes_of rfl rfl rfl rfl) (pmk_oexN TW.ox iC tI FI (hr.mono (by decide)) bI .nil pass0 (by rfl) TW.g (pa_cons pe_int pa_nil)))) pss_nil)
      (pss_cons (ps_fld (pv 0) (pe_callTy call_tuple_of (by rfl) T.n_tuple (by decide +kernel) (pa_cons (pe_lc (own := [("mode", 6), ("arms", 4)]) (g := gAny K 2 (gCons (gName 6) (gCons (gName 4) gNil))) (tt := tYes) rfl sc_prog.nd (pi_anyA (pv 1)) (blkOk_by (N := nInit) (sc := defScope (cP 0)) (by decide +kernel)) (fun _ _ _ _ _ => pg_any (by rfl) (pgs_cons (pg_name (i := 6) sc_prog.nd rfl (.inl rfl)) (pgs_cons (pg_name (i := 4) sc_prog.nd rfl (.inl rfl)) pgs_nil))) (te := tTup (tCons (tVar 6) (tCons (tCB (rTupOf K) (tCons (tVar 4) tNil)) tNil))) (fun _ _ _ _ _ => pts_nil) (fun _ _ _ _ _ => pe_tup (pa_cons (pv 6) (pa_cons (pe_callTy (r := rTupOf K) (T := "tuple") call_tuple_of (by rfl) T.n_tuple (by decide +kernel) (pa_cons (pv 4) pa_nil)) pa_nil)))) pa_nil)) rfl)
      (pss_cons (ps_expr (pe_cm0N MC L.cl (hr.mono (by decide)) (fun σ => passAtN (L2N.takes_of rfl rfl rfl rfl) σ) (pv 0)))
      (pss_cons (ps_setDc2 (i := 2) (own := [("_", 3), ("arms", 4), ("arm", 5)]) (vs1 := [5]) (g := gTup K 2 (gCons (gName 3) (gCons (gName 4) gNil))) (g1 := gName 5) (tt := tYes) (wi1 := iTup K (tVar 4)) rfl sc_prog.nd rfl rfl (sw_dict rfl rfl rfl (by decide +kernel)) (pi_tup (pe_fld (pv 0) rfl)) (blkOk_by (N := nInit) (sc := defScope (cP 0)) (by decide +kernel)) (by decide)
          (fun _ _ _ _ _ => pg_tup (by rfl) (pgs_cons (pg_name (i := 3) sc_prog.nd rfl (.inl rfl)) (pgs_cons (pg_name (i := 4) sc_prog.nd rfl (.inl rfl)) pgs_nil))) (fun _ _ _ _ _ => pts_nil) (fun _ _ _ _ _ => pi_tup (pv 4)) (fun _ _ _ _ _ => pg_name (i := 5) sc_prog.nd rfl (.inl rfl))
          (fun _ _ _ _ _ => pts_one (pt_not (pt_val (pe_ca CE (hr.mono (by decide)) (by rfl) (pa_cons (pv 5) pa_nil))))) (tk := tOp (rIxT K) (tVar 5) (tC (.int 1))) (fun _ _ _ _ _ => pe_ix ix_tup (pv 5) pe_int (fun _ _ => rfl)) (fun _ _ _ _ _ => pe_bl))
      (pss_one (ps_fld (pv 0) (pe_callTy call_tuple_of (by rfl) T.n_tuple (by decide +kernel) (pa_cons (pe_callB (call_sortedD rfl) (by rfl) T.n_sorted (by decide +kernel) (pa_cons (pv 2) pa_nil)) pa_nil)) rfl)))))), ?_⟩
    rcases hI with ⟨hR, rz⟩ | ⟨a, rfl, ha, rz⟩ | ⟨a, xs, hs, ps, rfl, ha, hx, eps, gps, hR, q1, q2⟩
    · refine ⟨_, rfl, v, false, rfl, RowOf.up RPlace.up _ _ _ _ e0 hR, fun H1 e1 => ⟨_, rfl, ?_⟩⟩
      refine iteT ?_
      refine iteT ?_
      have rz1 := rz.up (e0.trans e1)
      refine ⟨by show 1 ≤ 1000; decide, fun ax hax => ?_⟩
      refine ⟨ax, _, rfl, upd_same, fun dx' H5 hdx nda hk hA hD => ?_⟩
      rw [upd_ne nda] at hdx
      refine ⟨rfl, dx', _, hA, hD, hdx, rz1 dx' _ (fun b o z => ?_) upd_same⟩
      have nb1 : b ≠ ax := fun y => by rw [y, hax] at z; cases z
      have nb2 : b ≠ dx' := fun y => by rw [y, hdx] at z; cases z
      rw [upd_ne nb2, del_ne nb1, hk b nb1 nb2, upd_ne nb1]
      exact z
    · refine ⟨_, rfl, _, true, rfl, row_empty (ha.up e0), fun H1 e1 => ⟨_, rfl, ?_⟩⟩
      refine iteF ?_
      refine ⟨_, rfl, a, _, rfl, (ha.up (e0.trans e1)).sq, rfl, _, rfl, ?_⟩
      refine iteT ?_
      have rz1 := rz.up (e0.trans e1)
      refine ⟨by show 1 ≤ 1000; decide, fun ax hax => ?_⟩
      refine ⟨ax, _, rfl, upd_same, fun dx' H5 hdx nda hk hA hD => ?_⟩
      rw [upd_ne nda] at hdx
      refine ⟨rfl, dx', _, hA, hD, hdx, rz1 dx' _ (fun b o z => ?_) upd_same⟩
      have nb1 : b ≠ ax := fun y => by rw [y, hax] at z; cases z
      have nb2 : b ≠ dx' := fun y => by rw [y, hdx] at z; cases z
      rw [upd_ne nb2, del_ne nb1, hk b nb1 nb2, upd_ne nb1]
      exact z
    have lh : hs.length = ps.length := by rw [eps, List.length_map]
    have lx : xs.length = ps.length := by rw [hx.len, List.length_map, lh]
    have p0 : 0 < ps.length := List.length_pos_iff.mpr gps.ne
    have pf6 := gps.few
    refine ⟨_, rfl, _, true, rfl, RowOf.up RPlace.up _ _ _ _ e0 hR, fun H1 e1 => ⟨_, rfl, ?_⟩⟩
    refine iteF ?_
    have e01 := e0.trans e1
    have hp1 := e1 _ _ hp
    refine ⟨_, rfl, a, _, rfl, (ha.up e01).sq, rfl, _, rfl, ?_⟩
    refine ite2 (fun g => ?_) (fun _ => ?_)
    · have z := of_decide_eq_true g
      injection z with z
      omega
    -- the places
    rcases ha with ha | ha
    · refine .inl ⟨_, rfl, a, rfl, ⟨_, SqL.of (e01 _ _ ha)⟩, fun D hD => ?_⟩
      refine lc1_acc (walk_list (xs := xs)) (fun i zs Hd => DqAll (del Hd p) zs ((ps.take i).map placeD)) (fun _ _ _ _ e h => DqAll.up (ext_del e) h) .nil hD
        (fun i zs _ h => by rw [h.len, List.length_map, List.length_take]; exact Nat.lt_of_le_of_lt (show _ ≤ 6 by omega) (by decide)) (fun H' e => SqL.of ((e01.trans e) _ _ ha)) ?_ ?_
      · rintro i x Hi H' zs hi e hy ⟨rfl, hxi⟩ hz QY QN kY kN
        have hi2 : i < ps.length := by omega
        have hi3 : i < hs.length := by omega
        have ei : ps[i] = hs[i].1 := by simp only [eps, List.getElem_map]
        obtain ⟨x', hx', dx'⟩ := DqAll_get hx i (K22.hD hs[i]) (by rw [List.getElem?_map, List.getElem?_eq_getElem hi3]; rfl)
        rw [hxi] at hx'
        cases hx'
        obtain ⟨b, t2, ys, rfl, hb, ht2, hys⟩ := hd_inv dx'
        rw [← ei] at hb hys
        have e0i := e01.trans e
        have n1 : ∀ t3, H' t3 = none → t3 ≠ p := fun t3 ht3 z => by rw [z, e _ _ hp1] at ht3; cases ht3
        have n2 : ∀ t3, H' t3 = none → t3 ≠ D := fun t3 ht3 z => by rw [z, hy] at ht3; cases ht3
        have hD0 : H0 D = none := e01.free hD
        have fin : ∀ (t4 : Addr) (H3 : Hp), Ext H' H3 → H3 t4 = some (.tup ys) → (t4 ≠ p ∧ t4 ≠ D) → ∀ t3, H3 t3 = none → DqAll (del (del (upd H3 t3 (.tup [.str ps[i].1, .ref t4])) D) p) (zs ++ [.ref t3]) ((ps.take (i + 1)).map placeD) := fun t4 H3 e3 h4 n4 t3 ht3 => by
          have x3 := Ext.new (o := .tup [.str ps[i].1, .ref t4]) ht3
          have ht3' := e3.free ht3
          have ex : Ext H0 (del (del (upd H3 t3 (.tup [.str ps[i].1, .ref t4])) D) p) := ext_to (ext_to ((e0i.trans e3).trans x3) hD0) hp0
          rw [List.take_add_one, List.getElem?_eq_getElem hi2, Option.toList_some, List.map_append]
          have one : DqAll (del (del (upd H3 t3 (.tup [.str ps[i].1, .ref t4])) D) p) [.ref t3] [placeD ps[i]] :=
            .cons (.tup (by rw [del_ne (n1 _ ht3'), del_ne (n2 _ ht3')]; exact upd_same) (.cons (.str _) (.cons (.tup (by rw [del_ne n4.1, del_ne n4.2]; exact x3 _ _ h4) (DqAll.up ex hys)) .nil))) .nil
          exact dq_app (DqAll.up (ext_del (ext_del (e3.trans x3))) hz) one
        refine ⟨b, _, rfl, hb.imp (fun z => SqL.of (e0i _ _ z)) (fun z => SqT.of (e0i _ _ z)), rfl, _, _, rfl, _, _, rfl, rfl, rfl, ?_⟩
        refine tyes ?_
        rcases ht2 with ht2 | ht2
        · refine ⟨_, rfl, _, rfl, t2, ys, rfl, .inl ⟨SqL.of (e0i _ _ ht2), fun t4 ht4 => ⟨by show 2 ≤ sizeLine; decide, fun t3 ht3 => ?_⟩⟩⟩
          have e4 := Ext.new (o := .tup ys) ht4
          exact kY _ _ (e4.trans (Ext.new ht3)) (fin t4 _ e4 upd_same ⟨n1 _ ht4, n2 _ ht4⟩ t3 ht3)
        · refine ⟨_, rfl, _, rfl, t2, ys, rfl, .inr ⟨SqT.of (e0i _ _ ht2), by show 2 ≤ sizeLine; decide, fun t3 ht3 => ?_⟩⟩
          refine kY _ _ (Ext.new ht3) (fin t2 _ (Ext.refl _) (e0i _ _ ht2) ⟨fun z => ?_, fun z => ?_⟩ t3 ht3)
          · rw [z, hp0] at ht2; cases ht2
          · rw [z, hD0] at ht2; cases ht2
      intro H2 zs e2 hD2 hz
      rw [lx, List.take_length] at hz
      have hp2 := e2 _ _ hp1
      refine ⟨D, _, rfl, .inl ⟨SqL.of hD2, fun t ht => ?_⟩⟩
      have et := Ext.new (o := .tup zs) ht
      have npt : p ≠ t := fun z => by rw [← z, hp2] at ht; cases ht
      refine ⟨_, rfl, p, C, dx, [], rfl, et _ _ hp2, L.cl, L.nP, (by show 0 < 1000; decide), ?_⟩
      rw [putp1]
      have e4 : Ext H0 (upd (upd H2 t (.tup zs)) p (.ins C dx [("_places", .ref t)])) := Ext.mut ((e01.trans e2).trans et) hp0
      have h4t : (upd (upd H2 t (.tup zs)) p (.ins C dx [("_places", .ref t)])) t = some (.tup zs) := by
        rw [upd_ne (Ne.symm npt)]
        exact upd_same
      have h4p : (upd (upd H2 t (.tup zs)) p (.ins C dx [("_places", .ref t)])) p = some (.ins C dx [("_places", .ref t)]) := upd_same
      have h4d : DqAll (del (upd (upd H2 t (.tup zs)) p (.ins C dx [("_places", .ref t)])) p) zs (ps.map placeD) := by
        rw [del_upd]
        exact DqAll.up (ext_del et) hz
      generalize upd (upd H2 t (.tup zs)) p (.ins C dx [("_places", .ref t)]) = H4 at *
      have h4z := DqAll.up del_ext h4d
      -- the check
      have lk : ([("_places", V.ref t)] : List (Str × V)).lookup ("_places" : Str) = some (.ref t) := List.lookup_cons_self
      have lc : ([("_places", V.ref t)] : List (Str × V)).lookup ("_check" : Str) = none := one_field t (by decide +kernel)
      refine ⟨_, rfl, p, dx, _, rfl, h4p, lc, p, dx, t, _, zs, ps, rfl, h4p, lk, lc, h4t, h4z, gps, fun g hg => (q1 g hg).up e4, fun hb => ⟨fun i hi => ((q2 hb).1 i hi).up e4, fun ht2 H5 e5 => ?_⟩⟩
      have ok := pls_of gps hb ht2
      have q := (q2 hb).2 ht2
      have h5p := e5 _ _ h4p
      have h5t := e5 _ _ h4t
      have h5z := DqAll.up e5 h4z
      have e05 := e4.trans e5
      have lz : zs.length = ps.length := by rw [h5z.len, List.length_map]
      -- the lanes in use
      refine ⟨_, rfl, p, C, dx, _, _, rfl, h5p, L.cl, L.nP, lk, t, rfl, ⟨_, SqT.of h5t⟩, fun D2 hD2 => ?_⟩
      refine dc2_acc (walk_tup (xs := zs)) (fun i j kvs _ => ∃ ns : List Str, kvs = kvT ns ∧ ns.Nodup ∧ (∀ x, x ∈ ns ↔ x ∈ lanesP (ps.take i) ++ lanesA ((armsAt ps i).take j)) ∧ ns.length ≤ 5 * i + j ∧ i ≤ 6 ∧ j ≤ 5) (fun _ _ _ _ _ _ h => h)
        ⟨[], rfl, List.nodup_nil, (fun x => by simp [lanesP, lanesA]), by decide, by decide, by decide⟩ hD2
        (fun i j kvs _ ⟨ns, e, _, _, h1, h2, h3⟩ => by rw [e]; unfold kvT; rw [List.length_map]; exact Nat.lt_of_le_of_lt (show _ ≤ 35 by omega) (by decide)) (fun H' e => SqT.of (e _ _ h5t)) ?_ ?_
      · rintro i x Hi H' kvs hi e hy ⟨rfl, hxi⟩ hP R hR
        have hi2 : i < ps.length := by omega
        obtain ⟨x', hx', dx'⟩ := DqAll_get h5z i (placeD ps[i]) (by rw [List.getElem?_map, List.getElem?_eq_getElem hi2]; rfl)
        rw [hxi] at hx'
        cases hx'
        obtain ⟨b, t2, ys, rfl, hb, ht2, hys⟩ := place_inv dx'
        have gp := ok.ok _ (List.getElem_mem hi2)
        have ly : ys.length = ps[i].2.length := by rw [hys.len, List.length_map]
        have ea : armsAt ps i = ps[i].2 := by
          unfold armsAt
          rw [List.getElem?_eq_getElem hi2]
          rfl
        refine ⟨b, _, rfl, SqT.of (e _ _ hb), rfl, _, _, rfl, _, _, rfl, rfl, rfl, ?_⟩
        refine ⟨_, rfl, t2, rfl, ⟨_, SqT.of (e _ _ ht2)⟩, hR _ _ _ ⟨Ext.refl _, ys.length, _, _, walk_tup (xs := ys), fun Hz ez => SqT.of (ez _ _ (ext_to e hD2 _ _ ht2)), ?_, ?_⟩⟩
        · rintro kvs Hz ⟨ns, h1, h2, h3, h4, h5, h6⟩
          refine ⟨ns, h1, h2, fun z => ?_, by omega, by omega, by omega⟩
          rw [h3 z, ea, ly, List.take_length, List.take_add_one, List.getElem?_eq_getElem hi2, Option.toList_some, lanesP_snoc, List.take_zero]
          simp [lanesA]
        · rintro j y Ha Hb kvs hj eH ha2 ⟨rfl, hyj⟩ ⟨ns, rfl, h2, h3, h4, h5, h6⟩ QY QN kY kN
          have hj2 : j < ps[i].2.length := by omega
          obtain ⟨y', hy', dy'⟩ := DqAll_get hys j (armD ps[i].2[j]) (by rw [List.getElem?_map, List.getElem?_eq_getElem hj2]; rfl)
          rw [hyj] at hy'
          cases hy'
          have dy := dy'.up ((ext_to e hD2).trans eH)
          obtain ⟨t4, ws, et4, h7, _, _, h8⟩ := arm_inv dy
          have few := gp.few
          have tk : (armsAt ps i).take (j + 1) = (armsAt ps i).take j ++ [ps[i].2[j]] := by
            rw [ea, List.take_add_one, List.getElem?_eq_getElem hj2]
            rfl
          refine ⟨rfl, _, rfl, y, ps[i].2[j], rfl, dy, _, rfl, ?_⟩
          cases ho : ps[i].2[j].1 with
          | none =>
            refine iteF ?_
            refine kN _ (Ext.refl _) ⟨ns, rfl, h2, fun z => ?_, by omega, h5, by omega⟩
            have l0 : lanesA [ps[i].2[j]] = [] := by simp [lanesA, ho]
            rw [h3 z, tk, lanesA_snoc, l0, List.append_nil]
          | some pr =>
            refine iteT ?_
            refine ⟨_, rfl, t4, ws, 1, .str pr.2, et4, rfl, SqT.of h7, h8 pr ho, ?_⟩
            have l1 : lanesA [ps[i].2[j]] = [pr.2] := by simp [lanesA, ho]
            by_cases m : pr.2 ∈ ns
            · refine kY (.inr pr.2) (.bl true) _ (Ext.refl _) ⟨ns, kvT_put m, h2, fun z => ?_, by omega, h5, by omega⟩
              rw [tk, lanesA_snoc, l1]
              constructor
              · intro hz
                have := (h3 z).mp hz
                simp only [List.mem_append] at this ⊢
                rcases this with h | h
                · exact .inl h
                · exact .inr (.inl h)
              · intro hz
                simp only [List.mem_append, List.mem_singleton] at hz
                rcases hz with h | h | h
                · exact (h3 z).mpr (List.mem_append_left _ h)
                · exact (h3 z).mpr (List.mem_append_right _ h)
                · rw [h]; exact m
            · refine kY (.inr pr.2) (.bl true) _ (Ext.refl _) ⟨ns ++ [pr.2], kvT_new m, ?_, fun z => ?_, by rw [List.length_append, List.length_singleton]; omega, h5, by omega⟩
              · refine List.nodup_append.mpr ⟨h2, by simp, fun c hc d hd e => ?_⟩
                rw [List.mem_singleton.mp hd] at e
                exact m (e ▸ hc)
              · rw [tk, lanesA_snoc, l1]
                simp only [List.mem_append, List.mem_singleton]
                rw [h3 z]
                simp only [List.mem_append]
                constructor
                · rintro ((h | h) | h)
                  · exact .inl h
                  · exact .inr (.inl h)
                  · exact .inr (.inr h)
                · rintro (h | h | h)
                  · exact .inl (.inl h)
                  · exact .inl (.inr h)
                  · exact .inr h
      rintro H6 kvs e6 hD6 ⟨ns, rfl, h2, h3, h4, _, _⟩
      rw [lz, List.take_length] at h3
      have h3' : ∀ x, x ∈ ns ↔ x ∈ lanesP ps := fun x => by rw [h3 x]; simp [lanesA]
      rw [lz] at h4
      have kk : (kvT ns).map (·.1) = ns.map Sum.inr := by
        unfold kvT
        rw [List.map_map]
        rfl
      refine ⟨_, rfl, D2, _, ns, rfl, Rd.of hD6, kk, by omega, fun us l hperm hso hl => ?_⟩
      have e7 := Ext.new (o := .lst (us.map V.str)) hl
      refine ⟨l, _, rfl, .inl ⟨SqL.of upd_same, fun u hu => ?_⟩⟩
      have e8 := Ext.new (o := .tup (us.map V.str)) hu
      have k8 := upd_same (H := upd H6 l (.lst (us.map V.str))) (a := u) (o := HO.tup (us.map V.str))
      have e58 := (e6.trans e7).trans e8
      generalize upd (upd H6 l (.lst (us.map V.str))) u (.tup (us.map V.str)) = H8 at *
      refine ⟨_, rfl, p, C, dx, _, rfl, e58 _ _ h5p, L.cl, L.nU, (by show 1 < 1000; decide), ?_⟩
      rw [putp2]
      have npu : p ≠ u := fun z => by
        have := e58 _ _ h5p
        rw [z, k8] at this
        cases this
      refine q _ (Ext.mut (e05.trans e58) hp0) ⟨dx, t, u, zs, us, upd_same, ?_, ?_, ?_, hso, hperm.nodup_iff.mpr h2, by rw [hperm.length_eq]; omega, fun x => by rw [hperm.mem_iff, h3' x], ok⟩
      · rw [upd_ne (Ne.symm npt)]
        exact e58 _ _ h5t
      · have z1 := DqAll.up (ext_del (D := p) (e5.trans e58)) h4d
        rw [← del_upd (o := .ins C dx (pf t u))] at z1
        exact DqAll.up del_ext z1
      · rw [upd_ne (Ne.symm npu)]
        exact k8
    · refine .inr ⟨_, rfl, a, rfl, ⟨_, SqT.of (e01 _ _ ha)⟩, fun D hD => ?_⟩
      refine lc1_acc (walk_tup (xs := xs)) (fun i zs Hd => DqAll (del Hd p) zs ((ps.take i).map placeD)) (fun _ _ _ _ e h => DqAll.up (ext_del e) h) .nil hD
        (fun i zs _ h => by rw [h.len, List.length_map, List.length_take]; exact Nat.lt_of_le_of_lt (show _ ≤ 6 by omega) (by decide)) (fun H' e => SqT.of ((e01.trans e) _ _ ha)) ?_ ?_
      · rintro i x Hi H' zs hi e hy ⟨rfl, hxi⟩ hz QY QN kY kN
        have hi2 : i < ps.length := by omega
        have hi3 : i < hs.length := by omega
        have ei : ps[i] = hs[i].1 := by simp only [eps, List.getElem_map]
        obtain ⟨x', hx', dx'⟩ := DqAll_get hx i (K22.hD hs[i]) (by rw [List.getElem?_map, List.getElem?_eq_getElem hi3]; rfl)
        rw [hxi] at hx'
        cases hx'
        obtain ⟨b, t2, ys, rfl, hb, ht2, hys⟩ := hd_inv dx'
        rw [← ei] at hb hys
        have e0i := e01.trans e
        have n1 : ∀ t3, H' t3 = none → t3 ≠ p := fun t3 ht3 z => by rw [z, e _ _ hp1] at ht3; cases ht3
        have n2 : ∀ t3, H' t3 = none → t3 ≠ D := fun t3 ht3 z => by rw [z, hy] at ht3; cases ht3
        have hD0 : H0 D = none := e01.free hD
        have fin : ∀ (t4 : Addr) (H3 : Hp), Ext H' H3 → H3 t4 = some (.tup ys) → (t4 ≠ p ∧ t4 ≠ D) → ∀ t3, H3 t3 = none → DqAll (del (del (upd H3 t3 (.tup [.str ps[i].1, .ref t4])) D) p) (zs ++ [.ref t3]) ((ps.take (i + 1)).map placeD) := fun t4 H3 e3 h4 n4 t3 ht3 => by
          have x3 := Ext.new (o := .tup [.str ps[i].1, .ref t4]) ht3
          have ht3' := e3.free ht3
          have ex : Ext H0 (del (del (upd H3 t3 (.tup [.str ps[i].1, .ref t4])) D) p) := ext_to (ext_to ((e0i.trans e3).trans x3) hD0) hp0
          rw [List.take_add_one, List.getElem?_eq_getElem hi2, Option.toList_some, List.map_append]
          have one : DqAll (del (del (upd H3 t3 (.tup [.str ps[i].1, .ref t4])) D) p) [.ref t3] [placeD ps[i]] :=
            .cons (.tup (by rw [del_ne (n1 _ ht3'), del_ne (n2 _ ht3')]; exact upd_same) (.cons (.str _) (.cons (.tup (by rw [del_ne n4.1, del_ne n4.2]; exact x3 _ _ h4) (DqAll.up ex hys)) .nil))) .nil
          exact dq_app (DqAll.up (ext_del (ext_del (e3.trans x3))) hz) one
        refine ⟨b, _, rfl, hb.imp (fun z => SqL.of (e0i _ _ z)) (fun z => SqT.of (e0i _ _ z)), rfl, _, _, rfl, _, _, rfl, rfl, rfl, ?_⟩
        refine tyes ?_
        rcases ht2 with ht2 | ht2
        · refine ⟨_, rfl, _, rfl, t2, ys, rfl, .inl ⟨SqL.of (e0i _ _ ht2), fun t4 ht4 => ⟨by show 2 ≤ sizeLine; decide, fun t3 ht3 => ?_⟩⟩⟩
          have e4 := Ext.new (o := .tup ys) ht4
          exact kY _ _ (e4.trans (Ext.new ht3)) (fin t4 _ e4 upd_same ⟨n1 _ ht4, n2 _ ht4⟩ t3 ht3)
        · refine ⟨_, rfl, _, rfl, t2, ys, rfl, .inr ⟨SqT.of (e0i _ _ ht2), by show 2 ≤ sizeLine; decide, fun t3 ht3 => ?_⟩⟩
          refine kY _ _ (Ext.new ht3) (fin t2 _ (Ext.refl _) (e0i _ _ ht2) ⟨fun z => ?_, fun z => ?_⟩ t3 ht3)
          · rw [z, hp0] at ht2; cases ht2
          · rw [z, hD0] at ht2; cases ht2
      intro H2 zs e2 hD2 hz
      rw [lx, List.take_length] at hz
      have hp2 := e2 _ _ hp1
      refine ⟨D, _, rfl, .inl ⟨SqL.of hD2, fun t ht => ?_⟩⟩
      have et := Ext.new (o := .tup zs) ht
      have npt : p ≠ t := fun z => by rw [← z, hp2] at ht; cases ht
      refine ⟨_, rfl, p, C, dx, [], rfl, et _ _ hp2, L.cl, L.nP, (by show 0 < 1000; decide), ?_⟩
      rw [putp1]
      have e4 : Ext H0 (upd (upd H2 t (.tup zs)) p (.ins C dx [("_places", .ref t)])) := Ext.mut ((e01.trans e2).trans et) hp0
      have h4t : (upd (upd H2 t (.tup zs)) p (.ins C dx [("_places", .ref t)])) t = some (.tup zs) := by
        rw [upd_ne (Ne.symm npt)]
        exact upd_same
      have h4p : (upd (upd H2 t (.tup zs)) p (.ins C dx [("_places", .ref t)])) p = some (.ins C dx [("_places", .ref t)]) := upd_same
      have h4d : DqAll (del (upd (upd H2 t (.tup zs)) p (.ins C dx [("_places", .ref t)])) p) zs (ps.map placeD) := by
        rw [del_upd]
        exact DqAll.up (ext_del et) hz
      generalize upd (upd H2 t (.tup zs)) p (.ins C dx [("_places", .ref t)]) = H4 at *
      have h4z := DqAll.up del_ext h4d
      -- the check
      have lk : ([("_places", V.ref t)] : List (Str × V)).lookup ("_places" : Str) = some (.ref t) := List.lookup_cons_self
      have lc : ([("_places", V.ref t)] : List (Str × V)).lookup ("_check" : Str) = none := one_field t (by decide +kernel)
      refine ⟨_, rfl, p, dx, _, rfl, h4p, lc, p, dx, t, _, zs, ps, rfl, h4p, lk, lc, h4t, h4z, gps, fun g hg => (q1 g hg).up e4, fun hb => ⟨fun i hi => ((q2 hb).1 i hi).up e4, fun ht2 H5 e5 => ?_⟩⟩
      have ok := pls_of gps hb ht2
      have q := (q2 hb).2 ht2
      have h5p := e5 _ _ h4p
      have h5t := e5 _ _ h4t
      have h5z := DqAll.up e5 h4z
      have e05 := e4.trans e5
      have lz : zs.length = ps.length := by rw [h5z.len, List.length_map]
      -- the lanes in use
      refine ⟨_, rfl, p, C, dx, _, _, rfl, h5p, L.cl, L.nP, lk, t, rfl, ⟨_, SqT.of h5t⟩, fun D2 hD2 => ?_⟩
      refine dc2_acc (walk_tup (xs := zs)) (fun i j kvs _ => ∃ ns : List Str, kvs = kvT ns ∧ ns.Nodup ∧ (∀ x, x ∈ ns ↔ x ∈ lanesP (ps.take i) ++ lanesA ((armsAt ps i).take j)) ∧ ns.length ≤ 5 * i + j ∧ i ≤ 6 ∧ j ≤ 5) (fun _ _ _ _ _ _ h => h)
        ⟨[], rfl, List.nodup_nil, (fun x => by simp [lanesP, lanesA]), by decide, by decide, by decide⟩ hD2
        (fun i j kvs _ ⟨ns, e, _, _, h1, h2, h3⟩ => by rw [e]; unfold kvT; rw [List.length_map]; exact Nat.lt_of_le_of_lt (show _ ≤ 35 by omega) (by decide)) (fun H' e => SqT.of (e _ _ h5t)) ?_ ?_
      · rintro i x Hi H' kvs hi e hy ⟨rfl, hxi⟩ hP R hR
        have hi2 : i < ps.length := by omega
        obtain ⟨x', hx', dx'⟩ := DqAll_get h5z i (placeD ps[i]) (by rw [List.getElem?_map, List.getElem?_eq_getElem hi2]; rfl)
        rw [hxi] at hx'
        cases hx'
        obtain ⟨b, t2, ys, rfl, hb, ht2, hys⟩ := place_inv dx'
        have gp := ok.ok _ (List.getElem_mem hi2)
        have ly : ys.length = ps[i].2.length := by rw [hys.len, List.length_map]
        have ea : armsAt ps i = ps[i].2 := by
          unfold armsAt
          rw [List.getElem?_eq_getElem hi2]
          rfl
        refine ⟨b, _, rfl, SqT.of (e _ _ hb), rfl, _, _, rfl, _, _, rfl, rfl, rfl, ?_⟩
        refine ⟨_, rfl, t2, rfl, ⟨_, SqT.of (e _ _ ht2)⟩, hR _ _ _ ⟨Ext.refl _, ys.length, _, _, walk_tup (xs := ys), fun Hz ez => SqT.of (ez _ _ (ext_to e hD2 _ _ ht2)), ?_, ?_⟩⟩
        · rintro kvs Hz ⟨ns, h1, h2, h3, h4, h5, h6⟩
          refine ⟨ns, h1, h2, fun z => ?_, by omega, by omega, by omega⟩
          rw [h3 z, ea, ly, List.take_length, List.take_add_one, List.getElem?_eq_getElem hi2, Option.toList_some, lanesP_snoc, List.take_zero]
          simp [lanesA]
        · rintro j y Ha Hb kvs hj eH ha2 ⟨rfl, hyj⟩ ⟨ns, rfl, h2, h3, h4, h5, h6⟩ QY QN kY kN
          have hj2 : j < ps[i].2.length := by omega
          obtain ⟨y', hy', dy'⟩ := DqAll_get hys j (armD ps[i].2[j]) (by rw [List.getElem?_map, List.getElem?_eq_getElem hj2]; rfl)
          rw [hyj] at hy'
          cases hy'
          have dy := dy'.up ((ext_to e hD2).trans eH)
          obtain ⟨t4, ws, et4, h7, _, _, h8⟩ := arm_inv dy
          have few := gp.few
          have tk : (armsAt ps i).take (j + 1) = (armsAt ps i).take j ++ [ps[i].2[j]] := by
            rw [ea, List.take_add_one, List.getElem?_eq_getElem hj2]
            rfl
          refine ⟨rfl, _, rfl, y, ps[i].2[j], rfl, dy, _, rfl, ?_⟩
          cases ho : ps[i].2[j].1 with
          | none =>
            refine iteF ?_
            refine kN _ (Ext.refl _) ⟨ns, rfl, h2, fun z => ?_, by omega, h5, by omega⟩
            have l0 : lanesA [ps[i].2[j]] = [] := by simp [lanesA, ho]
            rw [h3 z, tk, lanesA_snoc, l0, List.append_nil]
          | some pr =>
            refine iteT ?_
            refine ⟨_, rfl, t4, ws, 1, .str pr.2, et4, rfl, SqT.of h7, h8 pr ho, ?_⟩
            have l1 : lanesA [ps[i].2[j]] = [pr.2] := by simp [lanesA, ho]
            by_cases m : pr.2 ∈ ns
            · refine kY (.inr pr.2) (.bl true) _ (Ext.refl _) ⟨ns, kvT_put m, h2, fun z => ?_, by omega, h5, by omega⟩
              rw [tk, lanesA_snoc, l1]
              constructor
              · intro hz
                have := (h3 z).mp hz
                simp only [List.mem_append] at this ⊢
                rcases this with h | h
                · exact .inl h
                · exact .inr (.inl h)
              · intro hz
                simp only [List.mem_append, List.mem_singleton] at hz
                rcases hz with h | h | h
                · exact (h3 z).mpr (List.mem_append_left _ h)
                · exact (h3 z).mpr (List.mem_append_right _ h)
                · rw [h]; exact m
            · refine kY (.inr pr.2) (.bl true) _ (Ext.refl _) ⟨ns ++ [pr.2], kvT_new m, ?_, fun z => ?_, by rw [List.length_append, List.length_singleton]; omega, h5, by omega⟩
              · refine List.nodup_append.mpr ⟨h2, by simp, fun c hc d hd e => ?_⟩
                rw [List.mem_singleton.mp hd] at e
                exact m (e ▸ hc)
              · rw [tk, lanesA_snoc, l1]
                simp only [List.mem_append, List.mem_singleton]
                rw [h3 z]
                simp only [List.mem_append]
                constructor
                · rintro ((h | h) | h)
                  · exact .inl h
                  · exact .inr (.inl h)
                  · exact .inr (.inr h)
                · rintro (h | h | h)
                  · exact .inl (.inl h)
                  · exact .inl (.inr h)
                  · exact .inr h
      rintro H6 kvs e6 hD6 ⟨ns, rfl, h2, h3, h4, _, _⟩
      rw [lz, List.take_length] at h3
      have h3' : ∀ x, x ∈ ns ↔ x ∈ lanesP ps := fun x => by rw [h3 x]; simp [lanesA]
      rw [lz] at h4
      have kk : (kvT ns).map (·.1) = ns.map Sum.inr := by
        unfold kvT
        rw [List.map_map]
        rfl
      refine ⟨_, rfl, D2, _, ns, rfl, Rd.of hD6, kk, by omega, fun us l hperm hso hl => ?_⟩
      have e7 := Ext.new (o := .lst (us.map V.str)) hl
      refine ⟨l, _, rfl, .inl ⟨SqL.of upd_same, fun u hu => ?_⟩⟩
      have e8 := Ext.new (o := .tup (us.map V.str)) hu
      have k8 := upd_same (H := upd H6 l (.lst (us.map V.str))) (a := u) (o := HO.tup (us.map V.str))
      have e58 := (e6.trans e7).trans e8
      generalize upd (upd H6 l (.lst (us.map V.str))) u (.tup (us.map V.str)) = H8 at *
      refine ⟨_, rfl, p, C, dx, _, rfl, e58 _ _ h5p, L.cl, L.nU, (by show 1 < 1000; decide), ?_⟩
      rw [putp2]
      have npu : p ≠ u := fun z => by
        have := e58 _ _ h5p
        rw [z, k8] at this
        cases this
      refine q _ (Ext.mut (e05.trans e58) hp0) ⟨dx, t, u, zs, us, upd_same, ?_, ?_, ?_, hso, hperm.nodup_iff.mpr h2, by rw [hperm.length_eq]; omega, fun x => by rw [hperm.mem_iff, h3' x], ok⟩
      · rw [upd_ne (Ne.symm npt)]
        exact e58 _ _ h5t
      · have z1 := DqAll.up (ext_del (D := p) (e5.trans e58)) h4d
        rw [← del_upd (o := .ins C dx (pf t u))] at z1
        exact DqAll.up del_ext z1
      · rw [upd_ne (Ne.symm npu)]
        exact k8
end
end K22

set_option Elab.async false
set_option linter.all false
set_option maxRecDepth 100000
set_option maxHeartbeats 4000000
namespace K22
open PySem PySem.Spec PyProof.Rows L2 Ol RZ
open TL (tl)
/-! ### what is due -/
inductive Res
  | wrong
  | noPl (g : Nat)
  | two (i : Nat)
  | told (ps : List Place)
def resD : Res → PyData
  | .wrong => .tuple [.str "Wrong", .int 0]
  | .noPl g => .tuple [.str "NoPlace", .int (g : Int)]
  | .two i => .tuple [.str "TwoElse", .int (i : Int)]
  | .told ps => .tuple [.str "told", .list (ps.map placeD)]
def resP (ps : List Place) : Res := match badP ps.length ps with
  | some g => .noPl g
  | none => match twoP ps with
    | some i => .two i
    | none => .told ps
/-- data so deep, whose lists and tuples are short throughout -/
def Kd : Nat → PyData → Prop
  | 0, d => Gd 0 d ∧ ∀ ds, partsD d = some ds → ds = []
  | n + 1, d => Gd (n + 1) d ∧ ∀ ds, partsD d = some ds → ds.length ≤ 5 ∧ ∀ e ∈ ds, Kd n e
theorem Kd.gd {n : Nat} {d : PyData} (k : Kd n d) : Gd n d := by
  cases n with
  | zero => exact k.1
  | succ n => exact k.1
theorem Kd.up1 : ∀ {n : Nat} {d : PyData}, Kd n d → Kd (n + 1) d
  | 0, d, k => ⟨k.1.up (by omega), fun ds h => by rw [k.2 ds h]; exact ⟨by decide, fun e he => nomatch he⟩⟩
  | n + 1, d, k => ⟨k.1.up (by omega), fun ds h => ⟨(k.2 ds h).1, fun e he => Kd.up1 ((k.2 ds h).2 e he)⟩⟩
theorem Kd.up {n m : Nat} {d : PyData} (k : Kd n d) (h : n ≤ m) : Kd m d := by
  induction m with
  | zero =>
    have : n = 0 := by omega
    subst this
    exact k
  | succ m ih =>
    by_cases c : n = m + 1
    · subst c
      exact k
    · exact (ih (by omega)).up1
theorem Kd.parts {n : Nat} {d : PyData} {ds : List PyData} (k : Kd n d) (h : partsD d = some ds) : ds.length ≤ 5 ∧ ∀ e ∈ ds, Kd n e := by
  cases n with
  | zero =>
    rw [k.2 ds h]
    exact ⟨by decide, fun e he => nomatch he⟩
  | succ n => exact ⟨(k.2 ds h).1, fun e he => ((k.2 ds h).2 e he).up1⟩
theorem kd_leaf {n : Nat} {d : PyData} (g : Gd n d) (h : partsD d = none) : Kd n d := by
  cases n with
  | zero => exact ⟨g, fun ds e => by rw [h] at e; cases e⟩
  | succ n => exact ⟨g, fun ds e => by rw [h] at e; cases e⟩
theorem kd_list {n : Nat} {ds : List PyData} (h : ∀ e ∈ ds, Kd n e) (l : ds.length ≤ 5) : Kd (n + 1) (.list ds) :=
  ⟨gd_list (fun e he => (h e he).gd) l, fun es e => by cases e; exact ⟨l, h⟩⟩
theorem kd_tuple {n : Nat} {ds : List PyData} (h : ∀ e ∈ ds, Kd n e) (l : ds.length ≤ 5) : Kd (n + 1) (.tuple ds) :=
  ⟨gd_tuple (fun e he => (h e he).gd) l, fun es e => by cases e; exact ⟨l, h⟩⟩
/-! ### good data -/
theorem isElse_of {d : PyData} (h : isElseD d = true) : d = .str "else" := by
  cases d with
  | str x => rw [of_decide_eq_true h]
  | _ => cases h
theorem isNum_of {d : PyData} (h : isNumD d = true) : ∃ n : Nat, d = .int (n : Int) := by
  cases d with
  | int i =>
    have : 0 ≤ i := of_decide_eq_true h
    exact ⟨i.toNat, by rw [Int.toNat_of_nonneg this]⟩
  | _ => cases h
theorem isWord_of {d : PyData} (h : isWordD d = true) : ∃ w, w ∈ words4 ∧ d = .str w := by
  cases d with
  | str x =>
    refine ⟨x, ?_, rfl⟩
    rcases of_decide_eq_true h with rfl | rfl | rfl | rfl <;> decide +kernel
  | _ => cases h
theorem isName_of {d : PyData} (h : isNameD d = true) : ∃ x, isNameS x = true ∧ d = .str x := by
  cases d with
  | str x => exact ⟨x, h, rfl⟩
  | _ => cases h
theorem isMode_of {d : PyData} (h : isModeD d = true) : ∃ x : Str, (x = "first" ∨ x = "any") ∧ d = .str x := by
  cases d with
  | str x => exact ⟨x, (of_decide_eq_true h).symm, rfl⟩
  | _ => cases h
theorem arm_of {d : PyData} (h : isArmD d = true) : ∃ a : Arm, d = armD a ∧ GArm a := by
  match d, h with
  | .tuple [x, y], h =>
    have h' : (isElseD x && isNumD y) = true := h
    rw [Bool.and_eq_true] at h'
    obtain ⟨n, rfl⟩ := isNum_of h'.2
    rw [isElse_of h'.1]
    exact ⟨(none, n), rfl, trivial⟩
  | .tuple [x, y, z], h =>
    have h' : (isWordD x && (isNameD y && isNumD z)) = true := h
    rw [Bool.and_eq_true, Bool.and_eq_true] at h'
    obtain ⟨n, rfl⟩ := isNum_of h'.2.2
    obtain ⟨w, hw, rfl⟩ := isWord_of h'.1
    obtain ⟨l, hl, rfl⟩ := isName_of h'.2.1
    exact ⟨(some (w, l), n), rfl, hw, hl⟩
theorem arms_of : ∀ {ds : List PyData}, ds.all isArmD = true → ∃ as : List Arm, ds = as.map armD ∧ ∀ a ∈ as, GArm a
  | [], _ => ⟨[], rfl, fun a h => nomatch h⟩
  | d :: ds, h => by
    rw [List.all_cons, Bool.and_eq_true] at h
    obtain ⟨a, rfl, ha⟩ := arm_of h.1
    obtain ⟨as, rfl, has⟩ := arms_of h.2
    refine ⟨a :: as, rfl, fun b hb => ?_⟩
    rcases List.mem_cons.mp hb with rfl | hb
    · exact ha
    · exact has b hb
theorem parts_if {d : PyData} {ds : List PyData} (h : partsD d = some ds) : ∃ b : Bool, d = if b = true then .list ds else .tuple ds := by
  cases d with
  | list es =>
    cases h
    exact ⟨true, rfl⟩
  | tuple es =>
    cases h
    exact ⟨false, rfl⟩
  | _ => cases h
theorem place_parts {d : PyData} (h : isPlaceD d = true) : ∃ a b, partsD d = some [a, b] ∧ isModeD a = true ∧ isRowD isArmD b = true := by
  unfold isPlaceD at h
  split at h
  · rename_i a b e
    rw [Bool.and_eq_true] at h
    exact ⟨a, b, e, h.1, h.2⟩
  · cases h
theorem place_of {n : Nat} {d : PyData} (h : isPlaceD d = true) (k : Kd n d) : ∃ hp : HPl, d = hD hp ∧ GPl hp.1 := by
  obtain ⟨a, b, e, h1, h2⟩ := place_parts h
  have kb := (k.parts e).2 b (by simp)
  obtain ⟨m, hm, rfl⟩ := isMode_of h1
  unfold isRowD at h2
  cases eb : partsD b with
  | none => rw [eb] at h2; cases h2
  | some es =>
    rw [eb] at h2
    obtain ⟨as, rfl, hg⟩ := arms_of h2
    obtain ⟨b1, rfl⟩ := parts_if e
    obtain ⟨b2, rfl⟩ := parts_if eb
    have l := (kb.parts eb).1
    rw [List.length_map] at l
    exact ⟨((m, as), b1, b2), rfl, hm, hg, l⟩
theorem places_of {n : Nat} : ∀ {ds : List PyData}, ds.all isPlaceD = true → (∀ e ∈ ds, Kd n e) → ∃ hs : List HPl, ds = hs.map hD ∧ ∀ h ∈ hs, GPl h.1
  | [], _, _ => ⟨[], rfl, fun a h => nomatch h⟩
  | d :: ds, h, k => by
    rw [List.all_cons, Bool.and_eq_true] at h
    obtain ⟨a, rfl, ha⟩ := place_of h.1 (k _ List.mem_cons_self)
    obtain ⟨as, rfl, has⟩ := places_of h.2 fun e he => k e (List.mem_cons_of_mem _ he)
    refine ⟨a :: as, rfl, fun b hb => ?_⟩
    rcases List.mem_cons.mp hb with rfl | hb
    · exact ha
    · exact has b hb
def Due (d : PyData) (r : Res) : Prop := ((isRowD isPlaceD d = false ∨ partsD d = some []) ∧ r = .wrong) ∨ ∃ hs : List HPl, partsD d = some (hs.map hD) ∧ isRowD isPlaceD d = true ∧ GPs (hs.map (·.1)) ∧ r = resP (hs.map (·.1))
theorem due_ex {n : Nat} {d : PyData} (k : Kd n d) : ∃ r, Due d r := by
  cases e : partsD d with
  | none => exact ⟨.wrong, .inl ⟨.inl (by unfold isRowD; rw [e]), rfl⟩⟩
  | some ds =>
    cases ds with
    | nil => exact ⟨.wrong, .inl ⟨.inr e, rfl⟩⟩
    | cons d0 ds =>
      cases h : isRowD isPlaceD d with
      | false => exact ⟨.wrong, .inl ⟨.inl h, rfl⟩⟩
      | true =>
        have h' : (d0 :: ds).all isPlaceD = true := by
          unfold isRowD at h
          rw [e] at h
          exact h
        obtain ⟨hs, eh, hg⟩ := places_of h' (k.parts e).2
        have l := (k.parts e).1
        rw [eh] at e l
        rw [List.length_map] at l
        refine ⟨_, .inr ⟨hs, e, h, ⟨fun z => ?_, by rw [List.length_map]; omega, fun p hp => ?_⟩, rfl⟩⟩
        · have : hs = [] := List.map_eq_nil_iff.mp z
          rw [this] at eh
          cases eh
        · obtain ⟨x, hx, rfl⟩ := List.mem_map.mp hp
          exact hg x hx
/-! ### data and what is asked of values -/
theorem parts_inv {H : Hp} {v : V} {d : PyData} {ds : List PyData} (h : Dq H v d) (e : partsD d = some ds) : ∃ a xs, v = .ref a ∧ LT H a xs ∧ DqAll H xs ds := by
  cases h with
  | lst h1 h2 =>
    cases e
    exact ⟨_, _, rfl, .inl h1, h2⟩
  | tup h1 h2 =>
    cases e
    exact ⟨_, _, rfl, .inr h1, h2⟩
  | _ => cases e
theorem row_of {C : Addr} {H : Hp} {v : V} {d : PyData} {n : Nat} {R : Ans} {p : PyData → Bool} (h : Dq H v d) (k : Kd n d) (hR : ∀ x e, Dq H x e → Kd n e → R H x (p e)) : RowOf C R H v (isRowD p d) := by
  unfold isRowD
  cases e : partsD d with
  | none => exact .inr ⟨.inl ⟨d, h, e⟩, rfl⟩
  | some ds =>
    obtain ⟨a, xs, rfl, ha, hx⟩ := parts_inv h e
    obtain ⟨l5, kk⟩ := k.parts e
    have lx := hx.len
    refine .inl ⟨a, xs, ds.map p, rfl, ha, by omega, by rw [List.length_map, lx], fun i x c hxi hc => ?_, ?_⟩
    · rw [List.getElem?_map] at hc
      cases hd : ds[i]? with
      | none => rw [hd] at hc; cases hc
      | some d1 =>
        rw [hd] at hc
        cases hc
        obtain ⟨x', hx', dx⟩ := DqAll_get hx i d1 hd
        rw [hxi] at hx'
        cases hx'
        exact hR x d1 dx (kk d1 (List.mem_of_getElem? hd))
    · rw [List.all_map]
      rfl
theorem rowA_of {C : Addr} {H : Hp} {v : V} {d : PyData} {n : Nat} (h : Dq H v d) (k : Kd n d) : RowOf C RArm H v (isRowD isArmD d) :=
  row_of h k fun x e hx ke => ⟨e, hx, ke.gd.okt, rfl⟩
theorem place_ofD {C : Addr} {H : Hp} {v : V} {d : PyData} {n : Nat} (h : Dq H v d) (k : Kd n d) : RPlace C H v (isPlaceD d) := by
  unfold isPlaceD
  cases e : partsD d with
  | none => exact .inr (.inr ⟨.inl ⟨d, h, e⟩, rfl⟩)
  | some ds =>
    obtain ⟨a, xs, rfl, ha, hx⟩ := parts_inv h e
    obtain ⟨l5, kk⟩ := k.parts e
    match ds, hx, kk with
    | [], hx, _ => exact .inr (.inl ⟨a, xs, rfl, ha, by rw [hx.len]; decide, rfl⟩)
    | [_], hx, _ => exact .inr (.inl ⟨a, xs, rfl, ha, by rw [hx.len]; simp, rfl⟩)
    | [d0, d1], hx, kk =>
      cases hx with
      | cons a1 t1 => cases t1 with
        | cons a2 t2 =>
          cases t2
          exact .inl ⟨a, _, _, isModeD d0, isRowD isArmD d1, rfl, ha, ⟨d0, a1, rfl⟩, rowA_of a2 (kk d1 (by simp)), rfl⟩
    | _ :: _ :: _ :: _, hx, _ => exact .inr (.inl ⟨a, xs, rfl, ha, by rw [hx.len]; simp, rfl⟩)
theorem rowP_of {C : Addr} {H : Hp} {v : V} {d : PyData} {n : Nat} (h : Dq H v d) (k : Kd n d) : RowOf C (RPlace C) H v (isRowD isPlaceD d) :=
  row_of h k fun x e hx ke => place_ofD hx ke
/-- isinstance(x, (list, tuple)) of data -/
theorem kit_pa {K : PySem.W.Frag} (d : PyData) : PySem.W.kitAny K (.type (tyD d)) [.type "list", .type "tuple"] = some (partsD d).isSome := by
  cases e : partsD d with
  | none => exact kit_no e
  | some ds =>
    cases d with
    | list es => exact kit_lt
    | tuple es => exact kit_tt
    | _ => cases e
end K22

set_option Elab.async false
set_option linter.all false
set_option maxRecDepth 100000
set_option maxHeartbeats 4000000
namespace K22
open PySem PySem.Spec PyProof.Rows L2 Ol RZ
open TL (tl)
section
variable {P : Program} {w : World} {K : PySem.W.Frag} {mg : Str → Option Value} {base : Heap} {C : Addr}
/-! ### _law_due -/
def spDue : Sp := fun vs H Q _ => ∃ (v : V) (d : PyData) (n : Nat) (r : Res), vs = [v] ∧ Dq H v d ∧ Kd n d ∧ Due d r ∧ ∀ x H', Ext H H' → Dq H' x (resD r) → Q x H'
abbrev s__law_due : Stmt := (topS 34)
theorem sc__law_due : FnScope ["_law_thing", "_law_row", "_law_arm_here", "_law_place"] ["_law_thing"] (defScope s__law_due) := ⟨rfl, rfl, rfl, by decide +kernel, rfl, by decide +kernel, by decide +kernel⟩
theorem ok_due {f : Addr} {fd : FuncData} (F : Fun K "_law_due" "_law_due" s__law_due f fd) (T : BT mg) (CIA : Ca P w K mg base 2 "_law_is_arm" ["_law_thing"] (spPred OkT isArmD)) :
    FnOk P w K mg base CX0 3 f fd ["_law_thing"] spDue := by
  refine F.ok sc__law_due (fun vs H Q E h => ?_) (fun cdv A outer s H vs Q E hr h => ?_)
  · obtain ⟨v, d, n, r, rfl, _⟩ := h
    rfl
  · obtain ⟨v, d, n, r, rfl, hd, k, due, q⟩ := h
    refine ⟨_, (pss_cons (ps_if (PW.pt (pw_or (pt_not (pt_val (pe_callB call_isiT (by rfl) T.n_isinstance (by decide +kernel) (pa_cons (pv 0) (pa_cons (pe_tup (pa_cons (pe_bltn (v := .ty "list") (by rfl) T.n_list (by decide +kernel) rfl) (pa_cons (pe_bltn (v := .ty "tuple") (by rfl) T.n_tuple (by decide +kernel) rfl) pa_nil))) pa_nil))))) (pw_or1 (pt_cmpR op_eq (pe_callB call_len_seq (by rfl) T.n_len (by decide +kernel) (pa_cons (pv 0) pa_nil)) pe_int (nomark _))))) (pss_one (ps_ret (pe_tup (pa_cons pe_str (pa_cons pe_int pa_nil))))) pss_nil)
      (pss_cons (ps_for PassesOwn.never rfl (pi_anyA (pv 0)) (pg_name (i := 1) sc__law_due.nd rfl (.inl rfl))
      (pss_cons (ps_if (PW.pt (pw_or (pt_not (pt_val (pe_callB call_isiT (by rfl) T.n_isinstance (by decide +kernel) (pa_cons (pv 1) (pa_cons (pe_tup (pa_cons (pe_bltn (v := .ty "list") (by rfl) T.n_list (by decide +kernel) rfl) (pa_cons (pe_bltn (v := .ty "tuple") (by rfl) T.n_tuple (by decide +kernel) rfl) pa_nil))) pa_nil))))) (pw_or1 (pt_cmpR op_ne (pe_callB call_len_seq (by rfl) T.n_len (by decide +kernel) (pa_cons (pv 1) pa_nil)) pe_int (nomark _))))) (pss_one (ps_ret (pe_tup (pa_cons pe_str (pa_cons pe_int pa_nil))))) pss_nil)
      (pss_cons (ps_if (PW.pt (pw_or (pt_not (pt_val (pe_callB call_isi (by rfl) T.n_isinstance (by decide +kernel) (pa_cons (pe_ix ix_any (pv 1) pe_int (fun _ _ => rfl)) (pa_cons (pe_bltn (v := .ty "str") (by rfl) T.n_str (by decide +kernel) rfl) pa_nil))))) (pw_or (pt_cmpR op_notIn_seq (pe_ix ix_any (pv 1) pe_int (fun _ _ => rfl)) (pe_tup (pa_cons pe_str (pa_cons pe_str pa_nil))) (by rfl)) (pw_or1 (pt_not (pt_val (pe_callB call_isiT (by rfl) T.n_isinstance (by decide +kernel) (pa_cons (pe_ix ix_any (pv 1) pe_int (fun _ _ => rfl)) (pa_cons (pe_tup (pa_cons (pe_bltn (v := .ty "list") (by rfl) T.n_list (by decide +kernel) rfl) (pa_cons (pe_bltn (v := .ty "tuple") (by rfl) T.n_tuple (by decide +kernel) rfl) pa_nil))) pa_nil))))))))) (pss_one (ps_ret (pe_tup (pa_cons pe_str (pa_cons pe_int pa_nil))))) pss_nil)
      (pss_one (ps_if (pt_cmpR (op_neE hr) (pe_lc (own := [("_law_arm_here", 2)]) (g := gName 2) rfl sc__law_due.nd (pi_anyA (pe_ix ix_any (pv 1) pe_int (fun _ _ => rfl))) (blkOk_by (N := ["_law_thing", "_law_row", "_law_arm_here", "_law_place"]) (sc := defScope s__law_due) (by decide +kernel)) (fun _ _ _ _ _ => (pg_name (i := 2) sc__law_due.nd rfl (.inl rfl))) (fun _ _ _ _ _ => pts_one (pt_not (pt_val (pe_ca CIA (hr.mono (by decide)) (by rfl) (pa_cons (pv 2) pa_nil))))) (fun _ _ _ _ _ => (pv 2))) (pe_lst pa_nil) (nomark _)) (pss_one (ps_ret (pe_tup (pa_cons pe_str (pa_cons pe_int pa_nil))))) pss_nil)))))
      (pss_cons (ps_for PassesOwn.never rfl (pi_anyA (pv 0)) (pg_name (i := 1) sc__law_due.nd rfl (.inl rfl))
      (pss_one (ps_for PassesOwn.never rfl (pi_anyA (pe_ix ix_any (pv 1) pe_int (fun _ _ => rfl))) (pg_name (i := 2) sc__law_due.nd rfl (.inl rfl))
      (pss_one (ps_if (pt_cmpR op_ge (pe_ix ix_tup (pv 2) (pe_un un_neg pe_int) (fun _ _ => rfl)) (pe_callB call_len_seq (by rfl) T.n_len (by decide +kernel) (pa_cons (pv 0) pa_nil)) (nomark _)) (pss_one (ps_ret (pe_tup (pa_cons pe_str (pa_cons (pe_ix ix_tup (pv 2) (pe_un un_neg pe_int) (fun _ _ => rfl)) pa_nil))))) pss_nil)))))
      (pss_cons (ps_for PassesOwn.never rfl (pi_range1 (by rfl) T.n_range (pa_cons (pe_callB call_len_seq (by rfl) T.n_len (by decide +kernel) (pa_cons (pv 0) pa_nil)) pa_nil)) (pg_name (i := 3) sc__law_due.nd rfl (.inl rfl))
      (pss_one (ps_if (pt_cmpR op_gt (pe_callB call_len_seq (by rfl) T.n_len (by decide +kernel) (pa_cons (pe_lc (own := [("_law_arm_here", 2)]) (g := gName 2) (tt := tTest (tOp rEq (tOp (rIxT K) (tVar 2) (tC (.int 0))) (tC (.str "else")))) rfl sc__law_due.nd (pi_anyA (pe_ix ix_any (pe_ix ix_any (pv 0) (pv 3) (fun _ _ => rfl)) pe_int (fun _ _ => rfl))) (blkOk_by (N := ["_law_thing", "_law_row", "_law_arm_here", "_law_place"]) (sc := defScope s__law_due) (by decide +kernel)) (fun _ _ _ _ _ => (pg_name (i := 2) sc__law_due.nd rfl (.inl rfl))) (fun _ _ _ _ _ => pts_one (pt_cmpR op_eq (pe_ix ix_tup (pv 2) pe_int (fun _ _ => rfl)) pe_str (nomark _))) (fun _ _ _ _ _ => (pv 2))) pa_nil)) pe_int (nomark _)) (pss_one (ps_ret (pe_tup (pa_cons pe_str (pa_cons (pv 3) pa_nil))))) pss_nil)))
      (pss_one (ps_ret (pe_tup (pa_cons pe_str (pa_cons (pe_lc (own := [("_law_row", 1)]) (g := gName 1) (tt := tYes) (te := tTup (tCons (tOp (rIxA K) (tVar 1) (tC (.int 0))) (tCons (tCB (rTupOf K) (tCons (tOp (rIxA K) (tVar 1) (tC (.int 1))) tNil)) tNil))) rfl sc__law_due.nd (pi_anyA (pv 0)) (blkOk_by (N := ["_law_thing", "_law_row", "_law_arm_here", "_law_place"]) (sc := defScope s__law_due) (by decide +kernel)) (fun _ _ _ _ _ => (pg_name (i := 1) sc__law_due.nd rfl (.inl rfl))) (fun _ _ _ _ _ => pts_nil) (fun _ _ _ _ _ => (pe_tup (pa_cons (pe_ix ix_any (pv 1) pe_int (fun _ _ => rfl)) (pa_cons (pe_callTy (r := rTupOf K) (T := "tuple") call_tuple_of (by rfl) T.n_tuple (by decide +kernel) (pa_cons (pe_ix ix_any (pv 1) pe_int (fun _ _ => rfl)) pa_nil)) pa_nil))))) pa_nil))))))))), ?_⟩
    have badW : r = .wrong → ∀ H1, Ext H H1 → ∀ t, H1 t = none → Q (.ref t) (upd H1 t (.tup [.str "Wrong", .int 0])) := fun e H1 e1 t ht =>
      q _ _ (e1.trans (Ext.new ht)) (by rw [e]; exact .tup upd_same (.cons (.str _) (.cons (.int _) .nil)))
    have badR : isRowD isPlaceD d = false → r = .wrong := fun g => by
      rcases due with ⟨_, e⟩ | ⟨hs, _, g', _⟩
      · exact e
      · rw [g] at g'
        cases g'
    refine ⟨_, rfl, by show 2 ≤ sizeLine; decide, fun tp htp => ?_⟩
    have e1 := Ext.new (o := .tup [.ty "list", .ty "tuple"]) htp
    refine ⟨_, tp, _, _, _, _, rfl, upd_same, .cons (.ty _) (.cons (.ty _) .nil), ty_of (hd.up e1), kit_pa d, _, rfl, ?_⟩
    generalize upd H tp (.tup [.ty "list", .ty "tuple"]) = H1 at e1 ⊢
    cases ed : partsD d with
    | none =>
      refine iteT (iteT ⟨by show 2 ≤ sizeLine; decide, fun t ht => badW (badR ?_) _ e1 t ht⟩)
      unfold isRowD
      rw [ed]
    | some ds =>
      refine iteF ?_
      obtain ⟨a, xs, rfl, ha, hx⟩ := parts_inv (hd.up e1) ed
      have lx := hx.len
      obtain ⟨l5, kk⟩ := k.parts ed
      refine ⟨_, rfl, a, _, rfl, ha.sq, rfl, _, rfl, ?_⟩
      refine ite2 (fun g => ?_) (fun g => ?_)
      · refine ⟨by show 2 ≤ sizeLine; decide, fun t ht => badW ?_ _ e1 t ht⟩
        have g' := of_decide_eq_true g
        injection g' with g'
        have : ds = [] := List.eq_nil_of_length_eq_zero (by omega)
        subst this
        rcases due with ⟨_, e⟩ | ⟨hs, e, _, gp, _⟩
        · exact e
        · rw [ed] at e
          cases hs with
          | nil => exact absurd rfl gp.ne
          | cons x t => cases e
      have ne : ds ≠ [] := fun z => g (decide_eq_true (by rw [lx, z]; rfl))
      -- are they places
      refine for_any ha (fun Q q => ⟨_, rfl, q⟩) (fun i σ H' => ∃ s1 s2, σ = [some (.ref a), s1, s2, none] ∧ Ext H1 H' ∧ ∀ e ∈ ds.take i, isPlaceD e = true)
        ⟨none, none, rfl, Ext.refl _, fun e he => nomatch he⟩ (fun i σ' H' ⟨_, _, _, e, _⟩ o z => e _ _ z) ?_ ?_
      · rintro i x σ' H2 hxi ⟨s1, s2, rfl, e2, hp⟩
        have hi : i < ds.length := by have := (List.getElem?_eq_some_iff.mp hxi).1; omega
        obtain ⟨x', hx', dx⟩ := DqAll_get hx i ds[i] (List.getElem?_eq_getElem hi)
        rw [hxi] at hx'
        cases hx'
        have ke := kk ds[i] (List.getElem_mem hi)
        have no : isPlaceD ds[i] = false → ∀ H3, Ext H1 H3 → ∀ t, H3 t = none → Q (.ref t) (upd H3 t (.tup [.str "Wrong", .int 0])) := fun z H3 e3 t ht => badW (badR (by
          unfold isRowD
          rw [ed]
          exact List.all_eq_false.mpr ⟨ds[i], List.getElem_mem hi, by rw [z]; exact Bool.false_ne_true⟩)) H3 (e1.trans e3) t ht
        refine ⟨_, rfl, by show 2 ≤ sizeLine; decide, fun tp2 htp2 => ?_⟩
        have e3 := e2.trans (Ext.new (o := .tup [.ty "list", .ty "tuple"]) htp2)
        have dx3 := dx.up e3
        refine ⟨_, tp2, _, _, _, _, rfl, upd_same, .cons (.ty _) (.cons (.ty _) .nil), ty_of dx3, kit_pa _, _, rfl, ?_⟩
        generalize upd H2 tp2 (.tup [.ty "list", .ty "tuple"]) = H3 at e3 dx3 ⊢
        cases ee : partsD ds[i] with
        | none =>
          refine iteT (iteT ⟨by show 2 ≤ sizeLine; decide, fun t ht => no ?_ _ e3 t ht⟩)
          unfold isPlaceD
          rw [ee]
        | some es =>
          refine iteF ?_
          obtain ⟨b, ys, rfl, hb, hy⟩ := parts_inv dx3 ee
          have ly := hy.len
          refine ⟨_, rfl, b, _, rfl, hb.sq, rfl, _, rfl, ?_⟩
          by_cases l2 : es.length = 2
          · obtain ⟨y0, y1, d0, d1, rfl, rfl, t0, t1⟩ := two_of hy (by omega)
            have ep : isPlaceD ds[i] = (isModeD d0 && isRowD isArmD d1) := by
              unfold isPlaceD
              rw [ee]
            refine iteF ?_
            refine ⟨_, rfl, ixA hb rfl ⟨_, _, _, _, _, rfl, .ty "str", ty_of t0, ki_str d0, _, rfl, ?_⟩⟩
            refine ite2 (fun h0 => ?_) (fun h0 => ?_)
            · refine iteT ⟨by show 2 ≤ sizeLine; decide, fun t ht => no ?_ _ e3 t ht⟩
              have h0' : ¬ kS d0 = true := fun y => by rw [y] at h0; cases h0
              rw [ep, mode_no h0', Bool.false_and]
            · obtain ⟨x, rfl, rfl⟩ := dq_str t0 (kS_yes h0)
              refine ⟨_, rfl, ixA hb rfl ⟨by show 2 ≤ sizeLine; decide, fun p3 hp3 => ⟨p3, _, rfl, .inr (SqT.of upd_same), rfl, rfl, _, rfl, ?_⟩⟩⟩
              have e4 := e3.trans (Ext.new (o := .tup [.str "first", .str "any"]) hp3)
              have hb4 := hb.up (Ext.new (o := .tup [.str "first", .str "any"]) hp3)
              have t14 := t1.up (Ext.new (o := .tup [.str "first", .str "any"]) hp3)
              generalize upd H3 p3 (.tup [.str "first", .str "any"]) = H4 at e4 hb4 t14 ⊢
              have ev : (if true = true then !inV (.str x) [.str "first", .str "any"] else inV (.str x) [.str "first", .str "any"]) = !isModeD (.str x) := by
                rw [if_pos rfl]
                congr 1
                show ((("first" : Str) == x) || ((("any" : Str) == x) || false)) = isModeS x
                unfold isModeS
                rw [Bool.eq_iff_iff]
                simp only [Bool.or_eq_true, beq_iff_eq, decide_eq_true_eq, Bool.or_false]
                exact ⟨fun z => z.elim (fun y => .inr y.symm) (fun y => .inl y.symm), fun z => z.elim (fun y => .inr y.symm) (fun y => .inl y.symm)⟩
              rw [ev]
              refine ite2 (fun hm => ?_) (fun hm => ?_)
              · refine iteT ⟨by show 2 ≤ sizeLine; decide, fun t ht => no ?_ _ e4 t ht⟩
                have hm' : isModeD (.str x) = false := by simpa using hm
                rw [ep, hm', Bool.false_and]
              · have hm' : isModeD (.str x) = true := by simpa using hm
                rw [hm', Bool.true_and] at ep
                refine ⟨_, rfl, ixA hb4 rfl ⟨by show 2 ≤ sizeLine; decide, fun tp5 htp5 => ⟨_, tp5, _, _, _, _, rfl, upd_same, .cons (.ty _) (.cons (.ty _) .nil), ty_of (t14.up (Ext.new htp5)), kit_pa d1, _, rfl, ?_⟩⟩⟩
                have n5 := Ext.new (o := .tup [.ty "list", .ty "tuple"]) htp5
                have e5 := e4.trans n5
                have hb5 := hb4.up n5
                have t15 := t14.up n5
                generalize upd H4 tp5 (.tup [.ty "list", .ty "tuple"]) = H5 at e5 hb5 t15 ⊢
                cases ea : partsD d1 with
                | none =>
                  refine iteT ⟨by show 2 ≤ sizeLine; decide, fun t ht => no ?_ _ e5 t ht⟩
                  rw [ep]
                  unfold isRowD
                  rw [ea]
                | some as =>
                  have k1 := (ke.parts ee).2 d1 (by simp)
                  obtain ⟨a5, kka⟩ := k1.parts ea
                  obtain ⟨c, zs, rfl, hc, hz⟩ := parts_inv t15 ea
                  have lz := hz.len
                  refine iteF ?_
                  dsimp only [tNext, tIfS, tTest, tOp]
                  refine lc_any hc (fun Q q => ⟨_, rfl, ixA hb5 rfl q⟩) (fun j ws _ => ws.isEmpty = (as.take j).all isArmD ∧ ws.length ≤ j ∧ j ≤ 5) (fun _ _ _ _ _ h => h) ⟨rfl, Nat.le_refl _, by decide⟩ (fun j ws _ h => Nat.lt_of_le_of_lt (show _ ≤ 5 by omega) (by decide)) ?_ ?_
                  · rintro D j y H6 ws hD hyj e6 hws ⟨p1, p2, p3⟩ QY QN kY kN
                    have hj : j < as.length := by have := (List.getElem?_eq_some_iff.mp hyj).1; omega
                    obtain ⟨y', hy', dy⟩ := DqAll_get hz j as[j] (List.getElem?_eq_getElem hj)
                    rw [hyj] at hy'
                    cases hy'
                    have et : (as.take (j + 1)).all isArmD = ((as.take j).all isArmD && isArmD as[j]) := by
                      rw [List.take_add_one, List.getElem?_eq_getElem hj, Option.toList_some, List.all_append, List.all_cons, List.all_nil, Bool.and_true]
                    refine ⟨rfl, _, rfl, y, as[j], rfl, dy.up e6, (kka _ (List.getElem_mem hj)).gd.okt, fun H7 e7 => ⟨_, rfl, ?_⟩⟩
                    refine ite2 (fun g => ?_) (fun g => ?_)
                    · refine ⟨_, rfl, kY _ _ e7 ⟨?_, by rw [List.length_append, List.length_singleton]; omega, by omega⟩⟩
                      have g' : isArmD as[j] = false := by simpa using g
                      rw [et, g', Bool.and_false]
                      cases ws <;> rfl
                    · have g' : isArmD as[j] = true := by simpa using g
                      refine kN _ e7 ⟨?_, by omega, by omega⟩
                      rw [et, g', Bool.and_true]
                      exact p1
                  · rintro D H6 ws hD e6 hws ⟨p1, p2, _⟩
                    rw [lz, List.take_length] at p1
                    refine ⟨by show 0 ≤ sizeLine; decide, fun b2 hb2 => ⟨D, b2, ws, rfl, rfl, SqL.of (Ext.new hb2 _ _ hws), SqL.of upd_same, _, rfl, ?_⟩⟩
                    have e7 := (e5.trans e6).trans (Ext.new (o := .lst []) hb2)
                    have er : isRowD isArmD d1 = as.all isArmD := by
                      unfold isRowD
                      rw [ea]
                    rw [er] at ep
                    rw [p1]
                    refine ite2 (fun g => ?_) (fun g => ?_)
                    · refine ⟨by show 2 ≤ sizeLine; decide, fun t ht => no ?_ _ e7 t ht⟩
                      rw [ep]
                      simpa using g
                    · refine ⟨_, _, rfl, e7, fun e he => ?_⟩
                      rw [List.take_add_one, List.getElem?_eq_getElem hi, Option.toList_some] at he
                      rcases List.mem_append.mp he with h | h
                      · exact hp e h
                      · rw [List.mem_singleton.mp h, ep]
                        simpa using g
          · refine ite2 (fun g => ⟨by show 2 ≤ sizeLine; decide, fun t ht => no ?_ _ e3 t ht⟩) (fun g => absurd ?_ g)
            · unfold isPlaceD
              rw [ee]
              match es, l2 with
              | [], _ => rfl
              | [_], _ => rfl
              | [_, _], h => exact absurd rfl h
              | _ :: _ :: _ :: _, _ => rfl
            · have : ¬ (V.int (ys.length : Int) = V.int 2) := fun z => by
                injection z with z
                omega
              show (!decide (V.int (ys.length : Int) = V.int 2)) = true
              rw [decide_eq_false this]
              rfl
      · rintro σ' H2 ⟨s1, s2, rfl, e2, hp⟩
        rw [lx, List.take_length] at hp
        rcases due with ⟨h | h, _⟩ | ⟨hs, eh, _, gp, rfl⟩
        · unfold isRowD at h
          rw [ed] at h
          have h2 : ds.all isPlaceD = false := h
          exact absurd (List.all_eq_true.mpr hp) (by rw [h2]; exact Bool.false_ne_true)
        · rw [ed] at h
          exact absurd (Option.some.inj h) ne
        rw [ed] at eh
        cases eh
        have lx2 : xs.length = hs.length := by rw [lx, List.length_map]
        have lp : (hs.map (·.1)).length = hs.length := List.length_map ..
        have p6 := gp.few
        have ha2 := ha.up e2
        have hx2 := DqAll.up e2 hx
        have e12 := e1.trans e2
        have get : ∀ (i : Nat) (x : V) (hi : i < hs.length), xs[i]? = some x → Dq H2 x (hD hs[i]) := fun i x hi hxi => by
          obtain ⟨x', hx', dx⟩ := DqAll_get hx2 i (hD hs[i]) (by rw [List.getElem?_map, List.getElem?_eq_getElem hi]; rfl)
          rw [hxi] at hx'
          cases hx'
          exact dx
        have ei : ∀ (i : Nat) (hi : i < hs.length), (hs.map (·.1))[i]'(by rw [lp]; exact hi) = hs[i].1 := fun i hi => List.getElem_map ..
        generalize eps : hs.map (·.1) = ps at *
        refine for_any ha2 (fun Q q => ⟨_, rfl, q⟩) (fun i σ H' => ∃ s1 s2, σ = [some (.ref a), s1, s2, none] ∧ H' = H2 ∧ badP ps.length (ps.take i) = none)
          ⟨_, _, rfl, rfl, rfl⟩ (fun i σ' H' ⟨_, _, _, e, _⟩ o z => by rw [e]; exact z) ?_ ?_
        · rintro i x σ' H3 hxi ⟨s1, s2, rfl, rfl, hb⟩
          have hi : i < hs.length := by have := (List.getElem?_eq_some_iff.mp hxi).1; omega
          have hip : i < ps.length := by omega
          obtain ⟨b, t, ys, rfl, hb', ht, hys⟩ := hd_inv (get i x hi hxi)
          have ly : ys.length = hs[i].1.2.length := by rw [hys.len, List.length_map]
          refine for_any ht (fun Q q => ⟨_, rfl, ixA hb' rfl q⟩) (fun j σ H' => ∃ s2, σ = [some (.ref a), some (.ref b), s2, none] ∧ H' = H3 ∧ bad ps.length (hs[i].1.2.take j) = none)
            ⟨_, rfl, rfl, rfl⟩ (fun i σ' H' ⟨_, _, e, _⟩ o z => by rw [e]; exact z) ?_ ?_
          · rintro j y σ' H4 hyj ⟨s2, rfl, rfl, hbj⟩
            have hj : j < hs[i].1.2.length := by have := (List.getElem?_eq_some_iff.mp hyj).1; omega
            obtain ⟨y', hy', dy'⟩ := DqAll_get hys j (armD hs[i].1.2[j]) (by rw [List.getElem?_map, List.getElem?_eq_getElem hj]; rfl)
            rw [hyj] at hy'
            cases hy'
            obtain ⟨t3, zs, rfl, h3, l3, _⟩ := arm_inv dy'
            refine ⟨_, rfl, _, rfl, t3, _, _, _, rfl, rfl, SqT.of h3, l3, _, rfl, a, _, rfl, ha2.sq, _, _, rfl, rfl, _, rfl, ?_⟩
            refine ite2 (fun g => ?_) (fun g => ?_)
            · have g' := of_decide_eq_true g
              have hn : ps.length ≤ hs[i].1.2[j].2 := by omega
              refine ⟨_, rfl, _, rfl, t3, _, _, _, rfl, rfl, SqT.of h3, l3, by show 2 ≤ sizeLine; decide, fun t ht => ?_⟩
              refine q _ _ (e12.trans (Ext.new ht)) ?_
              have hb2 : badP ps.length ps = some hs[i].1.2[j].2 := badP_hit hip hb (by rw [ei i hi]; exact bad_hit hj hbj hn)
              unfold resP
              rw [hb2]
              exact .tup upd_same (.cons (.str _) (.cons (.int _) .nil))
            · have g' := of_decide_eq_false (Bool.eq_false_iff.mpr g)
              exact ⟨_, rfl, rfl, bad_step hj hbj (by omega)⟩
          · rintro σ' H4 ⟨s2, rfl, rfl, hbj⟩
            rw [ly, List.take_length] at hbj
            exact ⟨_, _, rfl, rfl, badP_step hip hb (by rw [ei i hi]; exact hbj)⟩
        · rintro σ' H3 ⟨s1, s2, rfl, rfl, hb⟩
          rw [lx2, ← lp, List.take_length] at hb
          refine ⟨_, rfl, a, _, rfl, ha2.sq, _, rfl, by omega, by omega, for_range (n := xs.length) (fun i σ H' => ∃ s1 s2 s3, σ = [some (.ref a), s1, s2, s3] ∧ Ext H3 H' ∧ ∀ (k : Nat) (hk : k < ps.length), k < i → two ps[k] = false)
            ⟨_, _, _, rfl, Ext.refl _, fun k _ hk => absurd hk (Nat.not_lt_zero k)⟩ ?_ ?_⟩
          · rintro i σ' H4 hix ⟨s1, s2, s3, rfl, e4, hts⟩
            have hi : i < hs.length := by omega
            have hip : i < ps.length := by omega
            rw [Int.zero_add]
            obtain ⟨x, hxi⟩ : ∃ x, xs[i]? = some x := ⟨_, List.getElem?_eq_getElem hix⟩
            obtain ⟨b, t, ys, rfl, hb', ht, hys⟩ := hd_inv ((get i x hi hxi).up e4)
            have ly : ys.length = hs[i].1.2.length := by rw [hys.len, List.length_map]
            have gpl := gp.ok ps[i] (List.getElem_mem hip)
            rw [ei i hi] at gpl
            have few := gpl.few
            dsimp only [gName, tIfS, tTest, tOp, tCB, tCons]
            refine lc_any ht (fun Q q => ⟨_, rfl, _, rfl, ixA (ha2.up e4) (atI_nat hxi) (ixA hb' rfl q)⟩) (fun k zs _ => zs.length = ((hs[i].1.2.take k).filter fun a => a.1.isNone).length) (fun _ _ _ _ _ h => h) rfl
              (fun k zs _ h => by rw [h]; exact Nat.lt_of_le_of_lt (Nat.le_trans (List.length_filter_le ..) (by rw [List.length_take]; omega : _ ≤ 10)) (by decide)) ?_ ?_
            · rintro D k y H5 zs hD hyk e5 hzs hz QY QN kY kN
              have hk2 : k < hs[i].1.2.length := by have := (List.getElem?_eq_some_iff.mp hyk).1; omega
              obtain ⟨y', hy', dy'⟩ := DqAll_get hys k (armD hs[i].1.2[k]) (by rw [List.getElem?_map, List.getElem?_eq_getElem hk2]; rfl)
              rw [hyk] at hy'
              cases hy'
              obtain ⟨t4, ws, rfl, h4, _, l0, _⟩ := arm_inv (dy'.up e5)
              refine ⟨rfl, _, rfl, t4, _, _, _, rfl, rfl, SqT.of h4, l0, rfl, _, rfl, ?_⟩
              have iff0 := els_iff (gpl.arms _ (List.getElem_mem hk2))
              refine ite2 (fun g => ?_) (fun g => ?_)
              · refine ⟨_, rfl, kY _ _ (Ext.refl _) ?_⟩
                have g' := iff0.mp (dec_word.mp g)
                rw [List.take_add_one, List.getElem?_eq_getElem hk2, Option.toList_some, List.filter_append, List.length_append, List.length_append, hz, List.filter_cons_of_pos (p := fun a : Arm => a.1.isNone) (a := hs[i].1.2[k]) g']
                rfl
              · refine kN _ (Ext.refl _) ?_
                have g' : ¬ (hs[i].1.2[k].1.isNone = true) := fun y => g (dec_word.mpr (iff0.mpr y))
                rw [List.take_add_one, List.getElem?_eq_getElem hk2, Option.toList_some, List.filter_append, List.length_append, hz, List.filter_cons_of_neg (p := fun a : Arm => a.1.isNone) (a := hs[i].1.2[k]) g']
                rfl
            · rintro D H5 zs hD e5 hzs hz
              rw [ly, List.take_length] at hz
              have e45 := e4.trans e5
              refine ⟨D, _, rfl, .inl (SqL.of hzs), _, _, rfl, rfl, _, rfl, ?_⟩
              refine ite2 (fun g => ?_) (fun g => ?_)
              · have g' := of_decide_eq_true g
                have tw : two ps[i] = true := by
                  rw [ei i hi]
                  exact decide_eq_true (by omega)
                refine ⟨_, rfl, by show 2 ≤ sizeLine; decide, fun t ht => ?_⟩
                refine q _ _ ((e12.trans e45).trans (Ext.new ht)) ?_
                unfold resP
                rw [hb, twoP_hit hip hts tw]
                exact .tup upd_same (.cons (.str _) (.cons (.int _) .nil))
              · have g' := of_decide_eq_false (Bool.eq_false_iff.mpr g)
                have tw : two ps[i] = false := by
                  rw [ei i hi]
                  exact decide_eq_false (by omega)
                refine ⟨_, _, _, rfl, e45, fun k hk hki => ?_⟩
                by_cases ek : k = i
                · subst ek
                  exact tw
                · exact hts k hk (by omega)
          · rintro σ' H4 ⟨s1, s2, s3, rfl, e4, hts⟩
            have t0 : twoP ps = none := by
              unfold twoP
              rw [List.findIdx?_eq_none_iff]
              intro p hp
              obtain ⟨k, hk, rfl⟩ := List.mem_iff_getElem.mp hp
              simp [hts k hk (by omega)]
            have er : resP ps = .told ps := by
              unfold resP
              rw [hb, t0]
            rw [er] at q
            have ha4 := ha2.up e4
            dsimp only [tRet, tTup, tCons, tC]
            refine lc_any ha4 (fun Q q => ⟨_, rfl, q⟩) (fun i zs Hd => DqAll Hd zs ((ps.take i).map placeD)) (fun _ _ _ _ e h => DqAll.up e h) .nil
              (fun i zs _ h => by rw [h.len, List.length_map, List.length_take]; exact Nat.lt_of_le_of_lt (show _ ≤ 6 by omega) (by decide)) ?_ ?_
            · rintro D i x H5 zs hD hxi e5 hzs hz QY QN kY kN
              have hi : i < hs.length := by have := (List.getElem?_eq_some_iff.mp hxi).1; omega
              have hip : i < ps.length := by omega
              obtain ⟨b, t, ys, rfl, hb', ht, hys⟩ := hd_inv ((get i x hi hxi).up e4)
              have hb5 := hb'.imp (fun z => e5 _ _ z) (fun z => e5 _ _ z)
              have ht5 := ht.imp (fun z => e5 _ _ z) (fun z => e5 _ _ z)
              have fin : ∀ (t4 : Addr) (H6 : Hp), Ext H5 H6 → H6 t4 = some (.tup ys) → t4 ≠ D → ∀ t3, H6 t3 = none → DqAll (del (upd H6 t3 (.tup [.str hs[i].1.1, .ref t4])) D) (zs ++ [.ref t3]) ((ps.take (i + 1)).map placeD) := fun t4 H6 e6 h6 n4 t3 ht3 => by
                have x3 := Ext.new (o := .tup [.str hs[i].1.1, .ref t4]) ht3
                have n3 : t3 ≠ D := fun z => by rw [z, e6 _ _ hzs] at ht3; cases ht3
                have ex : Ext H4 (del (upd H6 t3 (.tup [.str hs[i].1.1, .ref t4])) D) := ext_to ((e5.trans e6).trans x3) hD
                rw [List.take_add_one, List.getElem?_eq_getElem hip, Option.toList_some, List.map_append, ei i hi]
                have one : DqAll (del (upd H6 t3 (.tup [.str hs[i].1.1, .ref t4])) D) [.ref t3] [placeD hs[i].1] :=
                  .cons (.tup (by rw [del_ne n3]; exact upd_same) (.cons (.str _) (.cons (.tup (by rw [del_ne n4]; exact x3 _ _ h6) (DqAll.up ex hys)) .nil))) .nil
                exact dq_app (DqAll.up (ext_del (e6.trans x3)) hz) one
              refine ⟨rfl, tyes ?_⟩
              refine ⟨_, rfl, ixA hb5 rfl ⟨_, rfl, ixA hb5 rfl ?_⟩⟩
              rcases ht5 with h5 | h5
              · refine ⟨t, ys, rfl, .inl ⟨SqL.of h5, fun t4 ht4 => ⟨by show 2 ≤ sizeLine; decide, fun t3 ht3 => ?_⟩⟩⟩
                have x4 := Ext.new (o := .tup ys) ht4
                exact kY _ _ (x4.trans (Ext.new ht3)) (fin t4 _ x4 upd_same (fun z => by rw [z, hzs] at ht4; cases ht4) t3 ht3)
              · refine ⟨t, ys, rfl, .inr ⟨SqT.of h5, by show 2 ≤ sizeLine; decide, fun t3 ht3 => ?_⟩⟩
                exact kY _ _ (Ext.new ht3) (fin t _ (Ext.refl _) h5 (fun z => by rw [z, hzs] at h5; cases h5) t3 ht3)
            · rintro D H5 zs hD e5 hzs hz
              rw [lx2, ← lp, List.take_length] at hz
              refine ⟨by show 2 ≤ sizeLine; decide, fun t ht => ?_⟩
              have xt := Ext.new (o := .tup [.str "told", .ref D]) ht
              exact q _ _ (((e12.trans e4).trans e5).trans xt) (.tup upd_same (.cons (.str _) (.cons (.lst (xt _ _ hzs) (DqAll.up xt hz)) .nil)))
end
end K22

set_option Elab.async false
set_option linter.all false
set_option maxRecDepth 100000
set_option maxHeartbeats 4000000
namespace K22
open PySem PySem.Spec PyProof.Rows L2 Ol RZ
open TL (tl)
theorem takes0N {X : Cx} : L2N.Takes X (fun _ _ _ _ => False) := fun _ _ y => by
  obtain ⟨_, _, _, _, _, _, _, _, _, _, _, _, _, _, _, _, z⟩ := y
  exact z.elim
theorem pe_alt {X : Cx} {e : Expr} {t1 t2 : TE} (h1 : PE X e t1) (h2 : PE X e t2) : PE X e (fun σ H Q => t1 σ H Q ∨ t2 σ H Q) := by
  constructor
  rintro pins s σ H Q I (h | h)
  · exact h1.run pins s σ H Q I h
  · exact h2.run pins s σ H Q I h
section
variable {P : Program} {w : World} {K : PySem.W.Frag} {mg : Str → Option Value} {base : Heap} {C NP TO W : Addr}
/-- how the three classes of errors stand to one another -/
structure E3 (K : PySem.W.Frag) (mg : Str → Option Value) (c W NP TO : Addr) (b1 b2 b3 : Bool) : Prop where
  bs : ∃ B : Addr, mg "LaneError" = some (.ref B) ∧ PySem.W.exmOne K (.ref c) (.ref B) = some true
  e : ExcC K c
  k1 : PySem.W.kitOne K (.ref c) (.ref W) = some b1
  k2 : PySem.W.kitOne K (.ref c) (.ref NP) = some b2
  k3 : PySem.W.kitOne K (.ref c) (.ref TO) = some b3
abbrev bls (b1 b2 b3 : Bool) : List V := [.bl b1, .bl b2, .bl b3]
def cnt (b1 b2 b3 : Bool) (k : Nat) : Nat := (([b1, b2, b3].take k).filter fun b => b).length
theorem cnt_step {b1 b2 b3 b : Bool} {k : Nat} (h : [b1, b2, b3][k]? = some b) : cnt b1 b2 b3 (k + 1) = cnt b1 b2 b3 k + (if b = true then 1 else 0) := by
  unfold cnt
  rw [List.take_add_one, h, Option.toList_some, List.filter_append, List.length_append]
  cases b <;> rfl
theorem cnt_le {b1 b2 b3 : Bool} {k : Nat} : cnt b1 b2 b3 k ≤ 4 := by
  unfold cnt
  refine Nat.le_trans (List.length_filter_le ..) ?_
  rw [List.length_take]
  exact by have : [b1, b2, b3].length = 3 := rfl; omega
theorem bls_at {b1 b2 b3 : Bool} {k : Nat} {y : V} (h : (bls b1 b2 b3)[k]? = some y) : ∃ b, y = .bl b ∧ [b1, b2, b3][k]? = some b := by
  have e : bls b1 b2 b3 = [b1, b2, b3].map V.bl := rfl
  rw [e, List.getElem?_map] at h
  cases hb : [b1, b2, b3][k]? with
  | none => rw [hb] at h; cases h
  | some b =>
    rw [hb] at h
    cases h
    exact ⟨b, rfl, rfl⟩
/-! ### _law_told -/
def tAlt (W NP TO a : Addr) (cls : Value) (d : Option Addr) : TE := fun σ H Q => tXf a cls d W "place" (tVar 1) σ H Q ∨ (fun σ H Q => tXf a cls d NP "place" (tVar 1) σ H Q ∨ tXf a cls d TO "place" (tVar 1) σ H Q) σ H Q
abbrev isx (K : PySem.W.Frag) (a : Addr) (cls : Value) (d : Option Addr) (c : Addr) : TE := tCB (rIsX K a cls d) (tCons (tVar 1) (tCons (tC (.ref c)) tNil))
abbrev lenR (K : PySem.W.Frag) : List V → Hp → VK → Prop := fun xs H Q => ∃ p ys, xs = [V.ref p] ∧ (SqL K H p ys ∨ SqT K H p ys) ∧ Q (V.int ys.length) H
def tsTold (K : PySem.W.Frag) (W NP TO a : Addr) (cls : Value) (d : Option Addr) : TS :=
  tSeq (tAsg (tLst (tCons (isx K a cls d W) (tCons (isx K a cls d NP) (tCons (isx K a cls d TO) tNil)))) (gName 2))
    (tSeq (tIfS (tTest (tOp rNe (tCB (lenR K) (tCons (tLc (iList K (tVar 2)) (gName 3) (tB (tVar 3)) (tVar 3) [3]) tNil)) (tC (.int 1)))) (tRet (tTup (tCons (tC (.str "other")) (tCons (tC (.int 0)) tNil)))) tNext)
      (tRet (tTup (tCons (tOp (rIxL K) (tLst (tCons (tC (.str "Wrong")) (tCons (tC (.str "NoPlace")) (tCons (tC (.str "TwoElse")) tNil)))) (tBM K "list" (rIndex K) (tVar 2) (tCons (tC (.bl true)) tNil))) (tCons (tAlt W NP TO a cls d) tNil)))))
theorem told_caught {c a d : Addr} {v : V} {b1 b2 b3 : Bool} {nm : Str} {i : Int} {j : Nat} {H1 : Hp} {Dn : Ends} (E : E3 K mg c W NP TO b1 b2 b3) (hc : (c = W ∨ c = NP ∨ c = TO))
    (one : cnt b1 b2 b3 3 = 1) (hj : (bls b1 b2 b3)[j]? = some (.bl true)) (hno : ∀ (m : Nat) (z : V), m < j → (bls b1 b2 b3)[m]? = some z → eqV z (.bl true) = false) (hn : [V.str "Wrong", .str "NoPlace", .str "TwoElse"][j]? = some (.str nm))
    (hx : H1 d = some (.xd (x1 "place" (.int i)))) (q : ∀ t H', Ext H1 H' → Dq H' t (.tuple [.str nm, .int i]) → Dn.rt t H') :
    tsTold K W NP TO a (.ref c) (some d) Dn [some v, some (.ref a), none, none] H1 := by
  refine ⟨_, rfl, c, W, d, _, b1, rfl, rfl, E.e, rfl, hx, E.k1, ?_⟩
  refine ⟨_, rfl, c, NP, d, _, b2, rfl, rfl, E.e, rfl, hx, E.k2, ?_⟩
  refine ⟨_, rfl, c, TO, d, _, b3, rfl, rfl, E.e, rfl, hx, E.k3, ?_⟩
  refine ⟨by show 3 ≤ sizeLine; decide, fun kl hkl => ?_⟩
  have x2 := Ext.new (o := .lst (bls b1 b2 b3)) hkl
  have y2 : upd H1 kl (.lst (bls b1 b2 b3)) kl = some (.lst (bls b1 b2 b3)) := upd_same
  generalize upd H1 kl _ = H2 at x2 y2 ⊢
  refine ⟨_, rfl, kl, rfl, ⟨_, SqL.of y2⟩, fun D hD => ?_⟩
  refine lc1_acc (walk_list (xs := bls b1 b2 b3)) (fun k zs _ => zs.length = cnt b1 b2 b3 k) (fun _ _ _ _ _ h => h) rfl hD (fun k zs _ h => by rw [h]; exact Nat.lt_of_le_of_lt cnt_le (by decide)) (fun H2 y => SqL.of (y _ _ y2)) ?_ ?_
  · rintro k y Hi H2 zs hk y1 hy ⟨rfl, hyk⟩ hz QY QN kY kN
    obtain ⟨b, rfl, hb⟩ := bls_at hyk
    refine ⟨rfl, ?_⟩
    refine ⟨_, rfl, b, rfl, ?_⟩
    refine ite2 (fun g => ?_) (fun g => ?_)
    · refine ⟨_, rfl, kY _ _ (Ext.refl _) ?_⟩
      rw [List.length_append, List.length_singleton, hz, cnt_step hb, if_pos g]
    · refine kN _ (Ext.refl _) ?_
      rw [hz, cnt_step hb, if_neg g, Nat.add_zero]
  rintro H3 zs e3 h3 hz
  have hz1 : zs.length = 1 := hz.trans one
  refine ⟨D, _, rfl, .inl (SqL.of h3), rfl, _, rfl, ?_⟩
  rw [hz1]
  refine ite2 (fun g => absurd g (by decide)) (fun _ => ?_)
  refine ⟨by show 3 ≤ sizeLine; decide, fun nl hnl => ?_⟩
  have x4 := Ext.new (o := .lst [.str "Wrong", .str "NoPlace", .str "TwoElse"]) hnl
  have h4 : upd H3 nl (.lst [.str "Wrong", .str "NoPlace", .str "TwoElse"]) nl = some (.lst [.str "Wrong", .str "NoPlace", .str "TwoElse"]) := upd_same
  generalize upd H3 nl _ = H4 at x4 h4 ⊢
  have y4 := x4 _ _ (e3 _ _ y2)
  have hx4 := x4 _ _ (e3 _ _ (x2 _ _ hx))
  refine ⟨_, rfl, .inl ⟨rfl, _, SqL.of y4⟩, kl, _, .bl true, j, .bl true, rfl, rfl, SqL.of y4, rfl, rfl, hj, rfl, hno, nl, _, (j : Int), _, rfl, rfl, SqL.of h4, atI_nat hn, ?_⟩
  have fin : ∀ (t : Addr), H4 t = none → Dn.rt (.ref t) (upd H4 t (.tup [.str nm, .int i])) := fun t ht =>
    q _ _ (((x2.trans e3).trans x4).trans (Ext.new ht)) (.tup upd_same (.cons (.str _) (.cons (.int _) .nil)))
  rcases hc with rfl | rfl | rfl
  · exact .inl ⟨_, rfl, rfl, rfl, d, _, _, rfl, hx4, x1_at _ _, by show 2 ≤ sizeLine; decide, fin⟩
  · exact .inr (.inl ⟨_, rfl, rfl, rfl, d, _, _, rfl, hx4, x1_at _ _, by show 2 ≤ sizeLine; decide, fin⟩)
  · exact .inr (.inr ⟨_, rfl, rfl, rfl, d, _, _, rfl, hx4, x1_at _ _, by show 2 ≤ sizeLine; decide, fin⟩)
def ToldOf (C : Addr) (H : Hp) (v : V) (r : Res) : Prop := (RowOf C (RPlace C) H v false ∧ r = .wrong) ∨ (∃ a, v = .ref a ∧ LT H a [] ∧ r = .wrong) ∨
  ∃ (a : Addr) (xs : List V) (hs : List HPl), v = .ref a ∧ LT H a xs ∧ DqAll H xs (hs.map hD) ∧ GPs (hs.map (·.1)) ∧ RowOf C (RPlace C) H v true ∧ r = resP (hs.map (·.1))
theorem told_of {H : Hp} {v : V} {d : PyData} {n : Nat} {r : Res} (h : Dq H v d) (k : Kd n d) (due : Due d r) : ToldOf C H v r := by
  have row := rowP_of (C := C) h k
  rcases due with ⟨z | z, e⟩ | ⟨hs, e, t, gp, er⟩
  · rw [z] at row
    exact .inl ⟨row, e⟩
  · obtain ⟨a, xs, rfl, ha, hx⟩ := parts_inv h z
    cases hx
    exact .inr (.inl ⟨a, rfl, ha, e⟩)
  · rw [t] at row
    obtain ⟨a, xs, rfl, ha, hx⟩ := parts_inv h e
    exact .inr (.inr ⟨a, xs, hs, rfl, ha, hx, gp, row, er⟩)
def spTold (C : Addr) : Sp := fun vs H Q _ => ∃ (v : V) (r : Res), vs = [v] ∧ ToldOf C H v r ∧ ∀ x H', Ext H H' → Dq H' x (resD r) → Q x H'
structure MkX (P : Program) (w : World) (K : PySem.W.Frag) (mg : Str → Option Value) (base : Heap) (C W NP TO : Addr) : Prop where
  has : ∃ (f : Addr) (fd : FuncData), FnOk P w K mg base (L2N.CX P w) 8 f fd ["self", "places"] (spInitX C W NP TO) ∧ Mk K C f ∧ Binds K fd ["self", "places"] []
abbrev s_told : Stmt := (topS 35)
abbrev nTold : List Str := ["_law_thing", "e", "_law_kinds", "_law_one"]
theorem sc_told : FnScope nTold ["_law_thing"] (defScope s_told) := ⟨rfl, rfl, rfl, by decide +kernel, rfl, by decide +kernel, by decide +kernel⟩
theorem ok_told {f : Addr} {fd : FuncData} (F : Fun K "_law_told" "_law_told" s_told f fd) (T : BT mg) (L : PT K mg C) (TW : XT K mg "Wrong" "place" W) (TP : XT K mg "NoPlace" "place" NP) (TT : XT K mg "TwoElse" "place" TO)
    (EW : E3 K mg W W NP TO true false false) (EP : E3 K mg NP W NP TO false true false) (ET : E3 K mg TO W NP TO false false true)
    (MK : MkX P w K mg base C W NP TO) (MP : Cm P w K mg base C 1 "places" ["self"] (spPls C)) :
    FnOk P w K mg base CX0 11 f fd ["_law_thing"] (spTold C) := by
  obtain ⟨B, gB, tW⟩ := EW.bs
  obtain ⟨fK, fdK, FK, mkK, bK⟩ := MK.has
  obtain ⟨fM, fdM, FM, mM, bM⟩ := MP.has
  have hBx : ∀ c b1 b2 b3, E3 K mg c W NP TO b1 b2 b3 → PySem.W.exmOne K (.ref c) (.ref B) = some true := fun c b1 b2 b3 h => by
    obtain ⟨B', g', t'⟩ := h.bs
    rw [gB] at g'
    cases g'
    exact t'
  refine F.ok sc_told (fun vs H Q E h => ?_) (fun cdv A outer st H vs Q E hr h => ?_)
  · obtain ⟨v, r, rfl, _⟩ := h
    rfl
  · obtain ⟨v, r, rfl, told, q⟩ := h
    refine ⟨_, (pss_one (L2N.ps_try_as (i := 1) (tb := fun Wx => tRet (tTup (tCons (tC (.str "told")) (tCons (tMeth C "places" (spPls C) [] E0 (tMakeX C (spInitX C W NP TO) [] (WE Wx) (tCons (tVar 0) tNil)) tNil) tNil))))
        (ts := fun a cls d => tsTold K W NP TO a cls d) (Wout := fun _ _ _ _ => False) rfl rfl sc_told.nd rfl rfl ⟨rfl, by decide, Or.inl gB⟩ takes0N
      (fun Wx pn xe tk _ => pss_one (ps_ret (pe_tup (pa_cons pe_str (pa_cons (pe_meth0 (by exact (pe_makeN mkK FK (hr.mono (by decide)) (by rfl) L.gC bK .nil (fun σ => passAtN tk σ) (pa_cons (pv 0) pa_nil))) L.cl mM FM (hr.mono (by decide)) bM .nil pass0) pa_nil)))))
      (fun a oe cls d pn hz hf => pss_cons (ps_set (i := 2) sc_told.nd rfl (.inl rfl) (pe_lst (pa_cons (pe_callB (call_isX hz.zc hf) (by rfl) T.n_isinstance (by decide +kernel) (pa_cons (pv 1) (pa_cons (pe_glob (v := .ref W) rfl TW.g rfl) pa_nil))) (pa_cons (pe_callB (call_isX hz.zc hf) (by rfl) T.n_isinstance (by decide +kernel) (pa_cons (pv 1) (pa_cons (pe_glob (v := .ref NP) rfl TP.g rfl) pa_nil))) (pa_cons (pe_callB (call_isX hz.zc hf) (by rfl) T.n_isinstance (by decide +kernel) (pa_cons (pv 1) (pa_cons (pe_glob (v := .ref TO) rfl TT.g rfl) pa_nil))) pa_nil)))))
        (pss_cons (ps_if (pt_cmpR op_ne (pe_callB call_len_seq (by rfl) T.n_len (by decide +kernel) (pa_cons (pe_lcH (own := [("_law_one", 3)]) (g := gName 3) (tt := tB (tVar 3)) (te := tVar 3) (hot_suite hz hf) sc_told.nd (pv 2) (blkOk_by (N := nTold) (sc := defScope s_told) (by decide +kernel)) (fun _ _ _ _ _ => pg_name (i := 3) sc_told.nd rfl (.inl rfl)) (fun _ _ _ _ _ => pts_one (pt_val (pv 3))) (fun _ _ _ _ _ => pv 3)) pa_nil)) pe_int (nomark _))
          (pss_one (ps_ret (pe_tup (pa_cons pe_str (pa_cons pe_int pa_nil))))) pss_nil)
        (pss_one (ps_ret (pe_tup (pa_cons (pe_ix ix_list (pe_lst (pa_cons pe_str (pa_cons pe_str (pa_cons pe_str pa_nil)))) (pe_bm PySem.F.plainAttrs_list PySem.F.slot_list_index PySem.F.type_list_index mt_index (pv 2) (pa_cons pe_bl pa_nil)) (fun _ _ => rfl)) (pa_cons (pe_alt (by exact (pe_xf TW.xf TW.nF hz.zc hf (pv 1))) (pe_alt (by exact (pe_xf TP.xf TP.nF hz.zc hf (pv 1))) (by exact (pe_xf TT.xf TT.nF hz.zc hf (pv 1))))) pa_nil))))))))), ?_⟩
    refine ⟨_, rfl, fun x dx nx ndx _ => ⟨H, x, dx, v, rfl, nx, Ext.mut (Ext.new ndx) nx, upd_same, ?_⟩⟩
    rcases told with ⟨h, er⟩ | ⟨a, rfl, ha, er⟩ | ⟨a, xs, hs, rfl, ha, hx, gp, row, er⟩
    · refine .inl ⟨h, fun d H1 e1 hx => ⟨true, hBx _ _ _ _ EW, fun _ a ha => ?_, fun z => Bool.noConfusion z⟩⟩
      exact told_caught (j := 0) (nm := "Wrong") EW (.inl rfl) rfl rfl (fun m z h => absurd h (Nat.not_lt_zero m)) rfl hx fun t H' e' ht => q _ _ (e1.trans e') (by rw [er]; exact ht)
    · refine .inr (.inl ⟨a, rfl, ha, fun d H1 e1 hx => ⟨true, hBx _ _ _ _ EW, fun _ a ha => ?_, fun z => Bool.noConfusion z⟩⟩)
      exact told_caught (j := 0) (nm := "Wrong") EW (.inl rfl) rfl rfl (fun m z h => absurd h (Nat.not_lt_zero m)) rfl hx fun t H' e' ht => q _ _ (e1.trans e') (by rw [er]; exact ht)
    · refine .inr (.inr ⟨a, xs, hs, hs.map (·.1), rfl, ha, hx, rfl, gp, row, fun g hg d H1 e1 hx => ⟨true, hBx _ _ _ _ EP, fun _ a ha => ?_, fun z => Bool.noConfusion z⟩, fun hb => ⟨fun i hi d H1 e1 hx => ⟨true, hBx _ _ _ _ ET, fun _ a ha => ?_, fun z => Bool.noConfusion z⟩, fun ht H1 e1 hP => ⟨rfl, ?_⟩⟩⟩)
      · refine told_caught (j := 1) (nm := "NoPlace") EP (.inr (.inl rfl)) rfl rfl (fun m z h hz => ?_) rfl hx fun t H' e' ht => q _ _ (e1.trans e') ?_
        · have : m = 0 := by omega
          subst this
          cases hz
          rfl
        · rw [er]
          unfold resP
          rw [hg]
          exact ht
      · refine told_caught (j := 2) (nm := "TwoElse") ET (.inr (.inr rfl)) rfl rfl (fun m z h hz => ?_) rfl hx fun t H' e' ht => q _ _ (e1.trans e') ?_
        · have : m = 0 ∨ m = 1 := by omega
          rcases this with rfl | rfl <;> cases hz <;> rfl
        · rw [er]
          unfold resP
          rw [hb, hi]
          exact ht
      · obtain ⟨dx2, t0, u, xs2, us, h1, _⟩ := id hP
        refine ⟨x, dx2, _, rfl, h1, pf_no _ _ (by decide +kernel) (by decide +kernel), x, _, rfl, hP, fun l xs H2 nl e2 hl hx => ?_⟩
        refine ⟨by show 2 ≤ sizeLine; decide, fun t ht2 => ?_⟩
        have xt := Ext.new (o := .tup [.str "told", .ref l]) ht2
        refine q _ _ ((e1.trans e2).trans xt) ?_
        rw [er]
        unfold resP
        rw [hb, ht]
        exact .tup upd_same (.cons (.str _) (.cons (.lst (xt _ _ hl) (DqAll.up xt hx)) .nil))
end
end K22

set_option Elab.async false
set_option linter.all false
set_option maxRecDepth 100000
set_option maxHeartbeats 4000000
namespace K22
open PySem PySem.Spec PyProof.Rows L2 Ol RZ
open TL (tl)
/-! ### what is new, and what stands beside lists that change -/
/-- what is new -/
def nwH (H H' : Hp) : Hp := fun b => match H b with
  | none => H' b
  | some _ => none
theorem nw_none {H H' : Hp} {b : Addr} (h : H b = none) : nwH H H' b = H' b := by unfold nwH; rw [h]
theorem nw_some {H H' : Hp} {b : Addr} {o : HO} (h : nwH H H' b = some o) : H b = none ∧ H' b = some o := by
  unfold nwH at h
  cases e : H b with
  | none => rw [e] at h; exact ⟨rfl, h⟩
  | some u => rw [e] at h; cases h
theorem nw_up {H H' H'' : Hp} (e : Ext H' H'') : Ext (nwH H H') (nwH H H'') := fun b o h => by
  obtain ⟨h1, h2⟩ := nw_some h
  rw [nw_none h1]
  exact e _ _ h2
theorem nw_ext {H H' : Hp} : Ext (nwH H H') H' := fun b o h => (nw_some h).2
/-- what was new behind H is new behind what is under it -/
theorem nw_down {H0 H H' : Hp} (e : Ext H0 H) : Ext (nwH H H') (nwH H0 H') := fun b o h => by
  obtain ⟨h1, h2⟩ := nw_some h
  rw [nw_none (e.free h1)]
  exact h2
def Tk (n : Nat) (R : Hp) (v : V) : Prop := ∃ d, Dq R v d ∧ Kd n d
theorem Tk.up {n m : Nat} {R R' : Hp} {v : V} (h : Tk n R v) (e : Ext R R') (l : n ≤ m) : Tk m R' v := by
  obtain ⟨d, h1, h2⟩ := h
  exact ⟨d, h1.up e, h2.up l⟩
theorem tk_all {n : Nat} {R : Hp} : ∀ {xs : List V}, (∀ x ∈ xs, Tk n R x) → ∃ ds, DqAll R xs ds ∧ ∀ d ∈ ds, Kd n d
  | [], _ => ⟨[], .nil, fun _ h => nomatch h⟩
  | x :: xs, h => by
    obtain ⟨d, h1, h2⟩ := h x List.mem_cons_self
    obtain ⟨ds, h3, h4⟩ := tk_all fun y hy => h y (List.mem_cons_of_mem _ hy)
    refine ⟨d :: ds, .cons h1 h3, fun e he => ?_⟩
    rcases List.mem_cons.mp he with z | z
    · rw [z]
      exact h2
    · exact h4 e z
theorem tk_list {n : Nat} {R : Hp} {p : Addr} {xs : List V} (hp : R p = some (.lst xs)) (h : ∀ x ∈ xs, Tk n R x) (l : xs.length ≤ 5) : Tk (n + 1) R (.ref p) := by
  obtain ⟨ds, h1, h2⟩ := tk_all h
  exact ⟨_, .lst hp h1, kd_list h2 (by rw [← h1.len]; exact l)⟩
theorem tk_tuple {n : Nat} {R : Hp} {p : Addr} {xs : List V} (hp : R p = some (.tup xs)) (h : ∀ x ∈ xs, Tk n R x) (l : xs.length ≤ 5) : Tk (n + 1) R (.ref p) := by
  obtain ⟨ds, h1, h2⟩ := tk_all h
  exact ⟨_, .tup hp h1, kd_tuple h2 (by rw [← h1.len]; exact l)⟩
theorem tk_int {R : Hp} (i : Int) (h1 : i.natAbs.log2 < 1920) (h2 : ((toString i : String) : Str).length ≤ 200) : Tk 0 R (.int i) := ⟨_, .int i, kd_leaf (gd_int i h1 h2) rfl⟩
theorem tk_bl {R : Hp} (b : Bool) : Tk 0 R (.bl b) := ⟨_, .bl b, kd_leaf (gd_bl b) rfl⟩
theorem tk_non {R : Hp} : Tk 0 R .non := ⟨_, .non, kd_leaf gd_non rfl⟩
theorem tk_str {R : Hp} (x : Str) (h1 : x.length ≤ 19) (h2 : ∀ c ∈ tl x, c < 128) : Tk 0 R (.str x) := ⟨_, .str x, kd_leaf (gd_str x h1 h2) rfl⟩
theorem tk_name {R : Hp} {x : Str} (h : isNameS x = true) : Tk 0 R (.str x) := ⟨_, .str x, kd_leaf (name_gd h) rfl⟩
/-- an odd value: lists and tuples among them are short -/
def Od (R : Hp) (v : V) : Prop := Tk 1 R v ∧ ∀ a xs, v = .ref a → (R a = some (.lst xs) → xs = [] ∨ xs = [.int 1]) ∧ (R a = some (.tup xs) → xs.length ≤ 1)
theorem Od.up {R R' : Hp} {v : V} (h : Od R v) (e : Ext R R') : Od R' v := by
  refine ⟨h.1.up e (Nat.le_refl _), fun a xs ev => ?_⟩
  subst ev
  obtain ⟨⟨d, hd, _⟩, h2⟩ := h
  have back : ∀ o, R' a = some o → R a = some o := fun o ho => by
    cases hd with
    | lst h1 _ =>
      rw [e _ _ h1] at ho
      rw [h1, ho]
    | tup h1 _ =>
      rw [e _ _ h1] at ho
      rw [h1, ho]
    | dct h1 _ =>
      rw [e _ _ h1] at ho
      rw [h1, ho]
  exact ⟨fun ha => (h2 a xs rfl).1 (back _ ha), fun ha => (h2 a xs rfl).2 (back _ ha)⟩
theorem od_flat {R : Hp} {v : V} (h : Tk 1 R v) (n : ∀ a, v ≠ .ref a) : Od R v := ⟨h, fun a _ e => absurd e (n a)⟩
theorem od_at {R : Hp} {a : Addr} {o : HO} (h : Tk 1 R (.ref a)) (ha : R a = some o) (n : ∀ xs, (o = .lst xs → xs = [] ∨ xs = [.int 1]) ∧ (o = .tup xs → xs.length ≤ 1)) : Od R (.ref a) := ⟨h, fun b xs e => by
  cases e
  refine ⟨fun hb => (n xs).1 ?_, fun hb => (n xs).2 ?_⟩
  · rw [ha] at hb
    exact Option.some.inj hb
  · rw [ha] at hb
    exact Option.some.inj hb⟩
section
variable {P : Program} {w : World} {K : PySem.W.Frag} {mg : Str → Option Value} {base : Heap}
/-! ### _law_odd -/
def spOdd : Sp := fun vs H Q _ => ∃ (p : Addr) (x : Str), vs = [.ref p, .str x] ∧ Bag H p ∧ isNameS x = true ∧ ∀ (v : V) (H' : Hp), Ext H H' → Od (nwH H H') v → Q v H'
abbrev s__law_odd : Stmt := (topS 30)
theorem sc__law_odd : FnScope ["_law_bag_here", "_law_name", "_law_far", "_law_plain"] ["_law_bag_here", "_law_name"] (defScope s__law_odd) := ⟨rfl, rfl, rfl, by decide +kernel, rfl, by decide +kernel, by decide +kernel⟩
theorem ok_odd {f : Addr} {fd : FuncData} (F : Fun K "_law_odd" "_law_odd" s__law_odd f fd) (T : BT mg) (CT : Ca P w K mg base 1 "_law_take" ["_law_bag_here", "_law_many"] spTake) :
    FnOk P w K mg base CX0 2 f fd ["_law_bag_here", "_law_name"] spOdd := by
  refine F.ok sc__law_odd (fun vs H Q E h => ?_) (fun cdv A outer s H vs Q E hr h => ?_)
  · obtain ⟨p, x, rfl, _⟩ := h
    rfl
  · obtain ⟨p, x, rfl, hb, hx, q⟩ := h
    refine ⟨_, (pss_cons (ps_set (i := 2) sc__law_odd.nd rfl (.inl rfl) (pe_callTy call_int_str (by rfl) T.n_int (by decide +kernel) (pa_cons (pe_op op_add_str pe_str (pe_op op_repS pe_str (pe_ca CT (hr.mono (by decide)) (by rfl) (pa_cons (pv 0) (pa_cons pe_int pa_nil))))) pa_nil)))
    (pss_cons (ps_set (i := 3) sc__law_odd.nd rfl (.inl rfl) (pe_lst (pa_cons pe_int (pa_cons pe_int (pa_cons (pe_un un_neg pe_int) (pa_cons (pv 2) (pa_cons (pe_un un_neg (pv 2)) (pa_cons pe_bl (pa_cons pe_bl (pa_cons pe_non (pa_cons pe_str (pa_cons pe_str (pa_cons (pv 1) (pa_cons (pe_op op_add_str (pv 1) pe_str) (pa_cons (pe_lst pa_nil) (pa_cons (pe_tup pa_nil) (pa_cons pe_dnewK (pa_cons (pe_lst (pa_cons pe_int pa_nil)) (pa_cons (pe_tup (pa_cons pe_int pa_nil)) (pa_cons (pe_tup (pa_cons (pv 1) pa_nil)) pa_nil))))))))))))))))))))
    (pss_one (ps_ret (pe_ix ix_list (pv 3) (pe_ca CT (hr.mono (by decide)) (by rfl) (pa_cons (pv 0) (pa_cons (pe_callB call_len_seq (by rfl) T.n_len (by decide +kernel) (pa_cons (pv 3) pa_nil)) pa_nil))) (fun _ _ => rfl)))))), ?_⟩
    obtain ⟨x1, x8, xl⟩ := name_tl hx
    have xlen : x.length ≤ 8 := by rw [tlen]; exact x8
    -- far
    refine ⟨_, rfl, p, 40, rfl, hb, by decide, by decide, fun r0 l0 u0 => ?_⟩
    obtain ⟨j, rfl⟩ : ∃ j : Nat, r0 = (j : Int) := ⟨r0.toNat, by omega⟩
    have hj : j < 40 := by omega
    have z24 : sizeLine = 16777216 := rfl
    have zl := far_len j hj
    refine ⟨_, j, rfl, rfl, by omega, rfl, by show (repS "0" j).length ≤ _; omega, _, _, rfl, rfl, by show 1 + (repS "0" j).length ≤ _; omega, _, _, rfl, far_int j hj, zl.1, ?_⟩
    have zp := pow_fit j hj
    have zq := pow_len j hj
    generalize (10 : Int) ^ j = far at zp zq ⊢
    refine ⟨_, rfl, _, rfl, _, rfl, _, rfl, _, rfl, _, rfl, _, _, rfl, rfl, by show x.length + 1 ≤ _; omega, by show 0 ≤ sizeLine; decide, fun p1 h1 => ⟨by show 0 ≤ sizeLine; decide, fun p2 h2 => fun p3 h3 => ⟨by show 1 ≤ sizeLine; decide, fun p4 h4 => ⟨by show 1 ≤ sizeLine; decide, fun p5 h5 => ⟨_, rfl, by show 1 ≤ sizeLine; decide, fun p6 h6 => ⟨by show 18 ≤ sizeLine; decide, fun p7 h7 => ?_⟩⟩⟩⟩⟩⟩
    have y1 := Ext.new (H := H) (o := .lst []) h1
    have a1 : (upd H p1 (.lst [])) p1 = some (.lst []) := upd_same
    generalize upd H p1 (.lst []) = H1 at *
    have y2 := Ext.new (H := H1) (o := .tup []) h2
    have a2 : (upd H1 p2 (.tup [])) p2 = some (.tup []) := upd_same
    generalize upd H1 p2 (.tup []) = H2 at *
    have y3 := Ext.new (H := H2) (o := .dK []) h3
    have a3 : (upd H2 p3 (.dK [])) p3 = some (.dK []) := upd_same
    generalize upd H2 p3 (.dK []) = H3 at *
    have y4 := Ext.new (H := H3) (o := .lst [.int 1]) h4
    have a4 : (upd H3 p4 (.lst [.int 1])) p4 = some (.lst [.int 1]) := upd_same
    generalize upd H3 p4 (.lst [.int 1]) = H4 at *
    have y5 := Ext.new (H := H4) (o := .tup [.int 0]) h5
    have a5 : (upd H4 p5 (.tup [.int 0])) p5 = some (.tup [.int 0]) := upd_same
    generalize upd H4 p5 (.tup [.int 0]) = H5 at *
    have y6 := Ext.new (H := H5) (o := .tup [.str x]) h6
    have a6 : (upd H5 p6 (.tup [.str x])) p6 = some (.tup [.str x]) := upd_same
    generalize upd H5 p6 (.tup [.str x]) = H6 at *
    have f2 := y1.trans y2
    have f3 := f2.trans y3
    have f4 := f3.trans y4
    have f5 := f4.trans y5
    have f6 := f5.trans y6
    have k1 : nwH H H6 p1 = some (.lst []) := by rw [nw_none h1]; exact y6 _ _ (y5 _ _ (y4 _ _ (y3 _ _ (y2 _ _ a1))))
    have k2 : nwH H H6 p2 = some (.tup []) := by rw [nw_none (y1.free h2)]; exact y6 _ _ (y5 _ _ (y4 _ _ (y3 _ _ a2)))
    have k3 : nwH H H6 p3 = some (.dK []) := by rw [nw_none (f2.free h3)]; exact y6 _ _ (y5 _ _ (y4 _ _ a3))
    have k4 : nwH H H6 p4 = some (.lst [.int 1]) := by rw [nw_none (f3.free h4)]; exact y6 _ _ (y5 _ _ a4)
    have k5 : nwH H H6 p5 = some (.tup [.int 0]) := by rw [nw_none (f4.free h5)]; exact y6 _ _ a5
    have k6 : nwH H H6 p6 = some (.tup [.str x]) := by rw [nw_none (f5.free h6)]; exact a6
    have i0 : ∀ R : Hp, Tk 0 R (.int 0) := fun R => tk_int _ (by decide +kernel) (by decide +kernel)
    have i1 : ∀ R : Hp, Tk 0 R (.int 1) := fun R => tk_int _ (by decide +kernel) (by decide +kernel)
    have all : ∀ v ∈ ([.int 0, .int 1, .int (-1), .int far, .int (-far), .bl true, .bl false, .non, .str "", .str "a", .str x, .str (x ++ "z"), .ref p1, .ref p2, .ref p3, .ref p4, .ref p5, .ref p6] : List V), Od (nwH H H6) v := by
      intro v hv
      simp only [List.mem_cons, List.not_mem_nil, or_false] at hv
      have up : ∀ {v : V}, Tk 0 (nwH H H6) v → Tk 1 (nwH H H6) v := fun h => h.up (Ext.refl _) (by omega)
      rcases hv with rfl | rfl | rfl | rfl | rfl | rfl | rfl | rfl | rfl | rfl | rfl | rfl | rfl | rfl | rfl | rfl | rfl | rfl
      · exact od_flat (up (i0 _)) (fun a e => nomatch e)
      · exact od_flat (up (i1 _)) (fun a e => nomatch e)
      · exact od_flat (up (tk_int _ (by decide +kernel) (by decide +kernel))) (fun a e => nomatch e)
      · exact od_flat (up (tk_int _ zp.1 zq.1)) (fun a e => nomatch e)
      · exact od_flat (up (tk_int _ zp.2 zq.2)) (fun a e => nomatch e)
      · exact od_flat (up (tk_bl _)) (fun a e => nomatch e)
      · exact od_flat (up (tk_bl _)) (fun a e => nomatch e)
      · exact od_flat (up tk_non) (fun a e => nomatch e)
      · exact od_flat (up (tk_str _ (by decide +kernel) (by decide +kernel))) (fun a e => nomatch e)
      · exact od_flat (up (tk_str _ (by decide +kernel) (by decide +kernel))) (fun a e => nomatch e)
      · exact od_flat (up (tk_name hx)) (fun a e => nomatch e)
      · refine od_flat (up (tk_str _ ?_ fun c hc => ?_)) (fun a e => nomatch e)
        · have e1 : (tl (Str.ofString "z")).length = 1 := by decide +kernel
          rw [tlen, tl_app, List.length_append]
          omega
        · rw [tl_app] at hc
          rcases List.mem_append.mp hc with h | h
          · exact abc_low c (xl c h)
          · have hz : ∀ c ∈ tl (Str.ofString "z"), c < 128 := by decide +kernel
            exact hz c h
      · exact od_at (up ⟨_, .lst k1 .nil, gd_nil, (fun ds e => by cases e; rfl)⟩) k1 (fun xs => ⟨(fun e => by cases e; exact .inl rfl), (fun e => nomatch e)⟩)
      · exact od_at (up ⟨_, .tup k2 .nil, gd_tnil, (fun ds e => by cases e; rfl)⟩) k2 (fun xs => ⟨(fun e => nomatch e), (fun e => by cases e; decide)⟩)
      · exact od_at (up ⟨_, .dct k3 .nil, kd_leaf gd_dnil rfl⟩) k3 (fun xs => ⟨(fun e => nomatch e), (fun e => nomatch e)⟩)
      · exact od_at (tk_list k4 (fun y hy => by rw [List.mem_singleton.mp hy]; exact i1 _) (by decide)) k4 (fun xs => ⟨(fun e => by cases e; exact .inr rfl), (fun e => nomatch e)⟩)
      · exact od_at (tk_tuple k5 (fun y hy => by rw [List.mem_singleton.mp hy]; exact i0 _) (by decide)) k5 (fun xs => ⟨(fun e => nomatch e), (fun e => by cases e; decide)⟩)
      · exact od_at (tk_tuple k6 (fun y hy => by rw [List.mem_singleton.mp hy]; exact tk_name hx) (by simp)) k6 (fun xs => ⟨(fun e => nomatch e), (fun e => by cases e; simp)⟩)
    generalize hxs : ([.int 0, .int 1, .int (-1), .int far, .int (-far), .bl true, .bl false, .non, .str "", .str "a", .str x, .str (x ++ "z"), .ref p1, .ref p2, .ref p3, .ref p4, .ref p5, .ref p6] : List V) = xs at all
    have hxl : xs.length = 18 := by rw [← hxs]; rfl
    have y7 := Ext.new (H := H6) (o := .lst xs) h7
    have a7 : (upd H6 p7 (.lst xs)) p7 = some (.lst xs) := upd_same
    have f7 := f6.trans y7
    have go : ∀ r : Int, 0 ≤ r → r < 18 → ∃ v, atI xs r = some v ∧ Q v (upd H6 p7 (.lst xs)) := fun r r0 r1 => by
      obtain ⟨i, rfl⟩ : ∃ i : Nat, r = (i : Int) := ⟨r.toNat, by omega⟩
      have hi : i < xs.length := by omega
      exact ⟨xs[i], atI_nat (List.getElem?_eq_getElem hi), q _ _ f7 ((all _ (List.getElem_mem hi)).up (nw_up y7))⟩
    subst hxs
    generalize upd H6 p7 _ = H7 at *
    refine ⟨_, rfl, _, rfl, _, rfl, p7, _, rfl, .inl (SqL.of a7), p, _, rfl, hb.up f7, by show (0 : Int) < ((18 : Nat) : Int); decide, by show ((18 : Nat) : Int) < _; decide, fun r r0 r1 => ?_⟩
    obtain ⟨v, hv, hq⟩ := go r r0 r1
    exact ⟨p7, _, _, v, rfl, rfl, SqL.of a7, hv, hq⟩
end
end K22

set_option Elab.async false
set_option linter.all false
set_option maxRecDepth 100000
set_option maxHeartbeats 4000000
namespace K22
open PySem PySem.Spec PyProof.Rows L2 Ol RZ
open TL (tl)
theorem cutN {tf tg : TS} {D : Ends} {σ : L2.St} {H : Hp} (W : L2.St → Hp → Prop) (h1 : ∀ N : L2.St → Hp → Prop, (∀ σ' H', W σ' H' → N σ' H') → tf { D with nx := N } σ H) (h2 : ∀ σ' H', W σ' H' → tg D σ' H') : tSeq tf tg D σ H :=
  h1 _ h2
section
variable {P : Program} {w : World} {K : PySem.W.Frag} {mg : Str → Option Value} {base : Heap}
/-! ### _law_arm -/
def spArm : Sp := fun vs H Q _ => ∃ (p an : Addr) (n : Nat) (ns : List Str), vs = [.ref p, .ref an, .int (n : Int)] ∧ Bag H p ∧ H an = some (.lst (ns.map V.str)) ∧ 1 ≤ ns.length ∧ ns.length ≤ 8 ∧ (∀ x ∈ ns, isNameS x = true) ∧ 1 ≤ n ∧ n ≤ 4 ∧
  ∀ (t : Addr) (a : Arm) (H' : Hp), Ext H H' → H t = none → Dq H' (.ref t) (armD a) → GArm a → a.2 ≤ 6 → Q (.ref t) H'
abbrev s__law_arm : Stmt := (topS 31)
abbrev nArm : List Str := ["_law_bag_here", "_law_names_here", "_law_places", "_law_word", "_law_to", "_law_name"]
theorem sc__law_arm : FnScope nArm ["_law_bag_here", "_law_names_here", "_law_places"] (defScope s__law_arm) := ⟨rfl, rfl, rfl, by decide +kernel, rfl, by decide +kernel, by decide +kernel⟩
def wordA : List Str := ["send", "take", "ended", "close", "else", "else"]
theorem wordA_ok : ∀ x ∈ wordA, x ∈ words4 ∨ x = "else" := by decide +kernel
theorem ok_arm {f : Addr} {fd : FuncData} (F : Fun K "_law_arm" "_law_arm" s__law_arm f fd) (T : BT mg) (CT : Ca P w K mg base 1 "_law_take" ["_law_bag_here", "_law_many"] spTake) :
    FnOk P w K mg base CX0 2 f fd ["_law_bag_here", "_law_names_here", "_law_places"] spArm := by
  refine F.ok sc__law_arm (fun vs H Q E h => ?_) (fun cdv A outer s H vs Q E hr h => ?_)
  · obtain ⟨p, an, n, ns, rfl, _⟩ := h
    rfl
  · obtain ⟨p, an, n, ns, rfl, hb, han, l1, l8, hns, n1, n4, q⟩ := h
    refine ⟨_, (pss_cons (ps_set (i := 3) sc__law_arm.nd rfl (.inl rfl) (pe_ix ix_list (pe_lst (pa_cons pe_str (pa_cons pe_str (pa_cons pe_str (pa_cons pe_str (pa_cons pe_str (pa_cons pe_str pa_nil))))))) (pe_ca CT (hr.mono (by decide)) (by rfl) (pa_cons (pv 0) (pa_cons pe_int pa_nil))) (fun _ _ => rfl)))
    (pss_cons (ps_set (i := 4) sc__law_arm.nd rfl (.inl rfl) (pe_ifExp (pt_cmpR op_lt (pe_ca CT (hr.mono (by decide)) (by rfl) (pa_cons (pv 0) (pa_cons pe_int pa_nil))) pe_int (nomark _)) (pe_ca CT (hr.mono (by decide)) (by rfl) (pa_cons (pv 0) (pa_cons (pv 2) pa_nil))) (pe_op op_add (pv 2) (pe_ca CT (hr.mono (by decide)) (by rfl) (pa_cons (pv 0) (pa_cons pe_int pa_nil))))))
    (pss_cons (ps_set (i := 5) sc__law_arm.nd rfl (.inl rfl) (pe_ix ix_list (pv 1) (pe_ca CT (hr.mono (by decide)) (by rfl) (pa_cons (pv 0) (pa_cons (pe_callB call_len_seq (by rfl) T.n_len (by decide +kernel) (pa_cons (pv 1) pa_nil)) pa_nil))) (fun _ _ => rfl)))
    (pss_one (ps_ret (pe_ifExp (pt_cmpR op_eq (pv 3) pe_str (nomark _)) (pe_tup (pa_cons pe_str (pa_cons (pv 4) pa_nil))) (pe_tup (pa_cons (pv 3) (pa_cons (pv 5) (pa_cons (pv 4) pa_nil)))))))))), ?_⟩
    refine ⟨by show 6 ≤ sizeLine; decide, fun wl hwl => ?_⟩
    have e1 := Ext.new (H := H) (o := .lst [.str "send", .str "take", .str "ended", .str "close", .str "else", .str "else"]) hwl
    have a1 : (upd H wl (.lst [.str "send", .str "take", .str "ended", .str "close", .str "else", .str "else"])) wl = some (.lst (wordA.map V.str)) := upd_same
    refine ⟨_, rfl, p, 6, rfl, hb.up e1, by decide, by decide, fun r r0 r1 => ?_⟩
    obtain ⟨i, rfl⟩ : ∃ i : Nat, r = (i : Int) := ⟨r.toNat, by omega⟩
    have hi : i < wordA.length := by show i < 6; omega
    refine ⟨wl, _, _, .str wordA[i], rfl, rfl, SqL.of a1, atI_nat (by rw [List.getElem?_map, List.getElem?_eq_getElem hi]; rfl), ?_⟩
    have hw := wordA_ok _ (List.getElem_mem hi)
    generalize wordA[i] = word at hw ⊢
    generalize upd H wl _ = H1 at e1 ⊢
    dsimp only [gName]
    refine cutN (fun σ' H' => ∃ g : Nat, σ' = [some (.ref p), some (.ref an), some (.int (n : Int)), some (.str word), some (.int (g : Int)), none] ∧ H' = H1 ∧ g ≤ 6) (fun N hN => ?_) ?_
    · refine ⟨_, rfl, p, 12, rfl, hb.up e1, by decide, by decide, fun r r0 r1 => ⟨_, _, rfl, rfl, _, rfl, ?_⟩⟩
      refine ite2 (fun _ => ?_) (fun _ => ?_)
      · refine ⟨_, rfl, _, rfl, p, _, rfl, hb.up e1, by omega, by omega, fun r r0 r1 => ?_⟩
        obtain ⟨g, rfl⟩ : ∃ g : Nat, r = (g : Int) := ⟨r.toNat, by omega⟩
        exact hN _ _ ⟨g, rfl, rfl, by omega⟩
      · refine ⟨_, rfl, _, rfl, p, 3, rfl, hb.up e1, by decide, by decide, fun r r0 r1 => ⟨_, _, rfl, rfl, ?_⟩⟩
        obtain ⟨g, rfl⟩ : ∃ g : Nat, r = (g : Int) := ⟨r.toNat, by omega⟩
        exact hN _ _ ⟨n + g, by rw [Int.natCast_add]; rfl, rfl, by omega⟩
    rintro σ' H2 ⟨g, rfl, rfl, hg⟩
    have han1 := e1 _ _ han
    refine ⟨_, rfl, _, rfl, _, rfl, an, _, rfl, .inl (SqL.of han1), p, _, rfl, hb.up e1, by rw [List.length_map]; omega, by rw [List.length_map]; omega, fun r r0 r1 => ?_⟩
    rw [List.length_map] at r1
    obtain ⟨j, rfl⟩ : ∃ j : Nat, r = (j : Int) := ⟨r.toNat, by omega⟩
    have hj : j < ns.length := by omega
    refine ⟨an, _, _, .str ns[j], rfl, rfl, SqL.of han1, atI_nat (ix_get j hj), ?_⟩
    have hn := hns _ (List.getElem_mem hj)
    refine ⟨_, rfl, rfl, _, rfl, ?_⟩
    refine ite2 (fun c => ?_) (fun c => ?_)
    · refine ⟨_, rfl, by show 2 ≤ sizeLine; decide, fun t ht => ?_⟩
      exact q t (none, g) _ (e1.trans (Ext.new ht)) (e1.free ht) (.tup upd_same (.cons (.str _) (.cons (.int _) .nil))) trivial hg
    · refine ⟨_, rfl, _, rfl, _, rfl, by show 3 ≤ sizeLine; decide, fun t ht => ?_⟩
      have hw4 : word ∈ words4 := hw.resolve_right fun e => c (by rw [e]; exact decide_eq_true rfl)
      exact q t (some (word, ns[j]), g) _ (e1.trans (Ext.new ht)) (e1.free ht) (.tup upd_same (.cons (.str _) (.cons (.str _) (.cons (.int _) .nil)))) ⟨hw4, hn⟩ hg
end
end K22

set_option Elab.async false
set_option linter.all false
set_option maxRecDepth 100000
set_option maxHeartbeats 4000000
namespace K22
open PySem PySem.Spec PyProof.Rows L2 Ol RZ
open TL (tl)
theorem ixi_nat {n j : Nat} (h : j < n) : ixN n (j : Int) = some j := by
  unfold ixN
  rw [if_pos (by omega), if_pos (by omega)]
  simp
theorem ixi_last {n : Nat} (h : 0 < n) : ixN n (-1) = some (n - 1) := by
  unfold ixN
  rw [if_neg (by decide), if_pos (by omega)]
  congr 1
  omega
theorem pick {A : V → Prop} {vl : List V} (h : ∀ v ∈ vl, A v) {r : Int} (r0 : 0 ≤ r) (r1 : r < (vl.length : Int)) : ∃ v, atI vl r = some v ∧ A v := by
  obtain ⟨i, rfl⟩ : ∃ i : Nat, r = (i : Int) := ⟨r.toNat, by omega⟩
  have hi : i < vl.length := by omega
  exact ⟨vl[i], atI_nat (List.getElem?_eq_getElem hi), h _ (List.getElem_mem hi)⟩
/-- a value that stands beside the list l, under R or new -/
def NV (H R : Hp) (l : Addr) (H' : Hp) (y : V) : Prop := ∀ R', Ext R R' → Ext (nwH H (del H' l)) R' → Tk 1 R' y
theorem NV.up {H R H' H'' : Hp} {l : Addr} {y : V} (h : NV H R l H' y) (e : Ext H' H'') : NV H R l H'' y := fun R' a b => h R' a fun c o z => b c o (nw_up (ext_del e) c o z)
theorem NV.set {H R H' : Hp} {l : Addr} {o : HO} {y : V} (h : NV H R l H' y) : NV H R l (upd H' l o) y := fun R' a b => h R' a (by rw [del_upd] at b; exact b)
theorem nv_of {H R H' : Hp} {l : Addr} {y : V} (h : ∀ R', Tk 0 R' y) : NV H R l H' y := fun R' _ _ => (h R').up (Ext.refl _) (by omega)
theorem nv_new {H R H' : Hp} {l a : Addr} {o : HO} {y : V} (na : H a = none) (al : a ≠ l) (ha : H' a = some o) (h : ∀ R' : Hp, R' a = some o → Tk 1 R' y) : NV H R l H' y := fun R' _ b => h R' (b a o (by
  rw [nw_none na, del_ne al]
  exact ha))
/-- a part of an arm: bounded, tuples so long -/
def Bt (m : Nat) (R : Hp) (v : V) : Prop := Tk 2 R v ∧ ∀ a xs, v = .ref a → R a = some (.tup xs) → xs.length ≤ m
section
variable {P : Program} {w : World} {K : PySem.W.Frag} {mg : Str → Option Value} {base : Heap}
/-! ### _law_bent -/
def spBent : Sp := fun vs H Q _ => ∃ (p t : Addr) (x : Str) (xs : List V) (m : Nat) (R : Hp), vs = [.ref p, .ref t, .str x] ∧ Bag H p ∧ H t = some (.tup xs) ∧ 2 ≤ xs.length ∧ xs.length ≤ m ∧ m ≤ 4 ∧ Ext R H ∧ (∀ y ∈ xs, Tk 1 R y) ∧ isNameS x = true ∧
  ∀ (v : V) (H' : Hp), Ext H H' → (∀ R', Ext R R' → Ext (nwH H H') R' → Ext R' H' → Bt (m + 1) R' v) → Q v H'
abbrev s__law_bent : Stmt := (topS 32)
abbrev nBe : List Str := ["_law_bag_here", "_law_arm_here", "_law_name", "_law_style", "_law_parts"]
theorem sc__law_bent : FnScope nBe ["_law_bag_here", "_law_arm_here", "_law_name"] (defScope s__law_bent) := ⟨rfl, rfl, rfl, by decide +kernel, rfl, by decide +kernel, by decide +kernel⟩
theorem ok_bent {f : Addr} {fd : FuncData} (F : Fun K "_law_bent" "_law_bent" s__law_bent f fd) (T : BT mg) (CT : Ca P w K mg base 1 "_law_take" ["_law_bag_here", "_law_many"] spTake) (CO : Ca P w K mg base 2 "_law_odd" ["_law_bag_here", "_law_name"] spOdd) :
    FnOk P w K mg base CX0 3 f fd ["_law_bag_here", "_law_arm_here", "_law_name"] spBent := by
  refine F.ok sc__law_bent (fun vs H Q E h => ?_) (fun cdv A outer s H vs Q E hr h => ?_)
  · obtain ⟨p, t, x, xs, m, R, rfl, _⟩ := h
    rfl
  · obtain ⟨p, t, x, xs, m, R, rfl, hb, ht, l2, lm, m4, eR, hxs, hx, q⟩ := h
    refine ⟨_, (pss_cons (ps_par (i := 3) (j := 4) rfl sc__law_bent.nd rfl rfl (by decide) rfl rfl (pa_cons (pe_ca CT (hr.mono (by decide)) (by rfl) (pa_cons (pv 0) (pa_cons pe_int pa_nil))) (pa_cons (pe_callTy call_list_of (by rfl) T.n_list (by decide +kernel) (pa_cons (pv 1) pa_nil)) pa_nil)) (by rfl))
    (pss_cons (ps_if (pt_cmpR op_eq (pv 3) pe_int (nomark _))
      (pss_one (ps_asg (pe_ix ix_list (pe_lst (pa_cons pe_str (pa_cons pe_str (pa_cons pe_str (pa_cons pe_str (pa_cons pe_str (pa_cons pe_int (pa_cons pe_non (pa_cons (pe_lst (pa_cons pe_str pa_nil)) (pa_cons (pe_tup (pa_cons pe_str pa_nil)) pa_nil)))))))))) (pe_ca CT (hr.mono (by decide)) (by rfl) (pa_cons (pv 0) (pa_cons pe_int pa_nil))) (fun _ _ => rfl)) (pg_sub (pv 4) pe_int set_list)))
      pss_nil)
    (pss_cons (ps_if (pt_cmpR op_eq (pv 3) pe_int (nomark _))
      (pss_one (ps_asg (pe_ix ix_list (pe_lst (pa_cons (pe_un un_neg pe_int) (pa_cons pe_bl (pa_cons pe_non (pa_cons pe_str (pa_cons (pe_op op_pow pe_int pe_int) (pa_cons (pe_tup (pa_cons pe_int pa_nil)) pa_nil))))))) (pe_ca CT (hr.mono (by decide)) (by rfl) (pa_cons (pv 0) (pa_cons pe_int pa_nil))) (fun _ _ => rfl)) (pg_sub (pv 4) (pe_un un_neg pe_int) set_list)))
      pss_nil)
    (pss_cons (ps_if (pt_cmpR op_eq (pv 3) pe_int (nomark _))
      (pss_one (ps_expr (pe_bm PySem.F.plainAttrs_list PySem.F.slot_list_insert PySem.F.type_list_insert mt_insert (pv 4) (pa_cons (pe_ca CT (hr.mono (by decide)) (by rfl) (pa_cons (pv 0) (pa_cons (pe_op op_add (pe_callB call_len_seq (by rfl) T.n_len (by decide +kernel) (pa_cons (pv 4) pa_nil)) pe_int) pa_nil))) (pa_cons (pe_ca CO (hr.mono (by decide)) (by rfl) (pa_cons (pv 0) (pa_cons (pv 2) pa_nil))) pa_nil)))))
      pss_nil)
    (pss_cons (ps_if (pt_cmpR op_eq (pv 3) pe_int (nomark _))
      (pss_one (ps_ret (pv 4)))
      pss_nil)
    (pss_cons (ps_if (pt_cmpR op_eq (pv 3) pe_int (nomark _))
      (pss_one (ps_ret (pe_ca CO (hr.mono (by decide)) (by rfl) (pa_cons (pv 0) (pa_cons (pv 2) pa_nil)))))
      pss_nil)
    (pss_cons (ps_if (PW.pt (pw_and (pt_cmpR op_eq (pv 3) pe_int (nomark _)) (pw_and1 (pt_cmpR op_eq (pe_callB call_len_seq (by rfl) T.n_len (by decide +kernel) (pa_cons (pv 4) pa_nil)) pe_int (nomark _)))))
      (pss_one (ps_asg (pe_ix ix_list (pe_lst (pa_cons (pe_bm0 PySem.F.plainAttrs_str PySem.F.slot_str_upper PySem.F.type_str_upper mt_upper (pv 2)) (pa_cons pe_str (pa_cons (pe_op op_rep9 (pv 2) pe_int) (pa_cons pe_int (pa_cons pe_non (pa_cons (pe_lst (pa_cons (pv 2) pa_nil)) (pa_cons pe_str (pa_cons (pe_op op_add_str (pe_slice sl_str (pv 2) po_none (po_some pe_int)) pe_str) pa_nil))))))))) (pe_ca CT (hr.mono (by decide)) (by rfl) (pa_cons (pv 0) (pa_cons pe_int pa_nil))) (fun _ _ => rfl)) (pg_sub (pv 4) pe_int set_list)))
      pss_nil)
    (pss_one (ps_ret (pe_callTy call_tuple_of (by rfl) T.n_tuple (by decide +kernel) (pa_cons (pv 4) pa_nil))))))))))), ?_⟩
    obtain ⟨x1, x8, xl⟩ := name_tl hx
    have xlen : x.length ≤ 8 := by rw [tlen]; exact x8
    have xlen1 : 1 ≤ x.length := by rw [tlen]; exact x1
    have x128 : ∀ c ∈ tl x, c < 128 := fun c hc => abc_low c (xl c hc)
    have z24 : sizeLine = 16777216 := rfl
    refine ⟨_, rfl, p, 6, rfl, hb, by decide, by decide, fun st r0 r1 => ⟨_, rfl, t, xs, rfl, .inr (SqT.of ht), fun l nl => ⟨_, _, rfl, ?_⟩⟩⟩
    have e1 := Ext.new (H := H) (o := .lst xs) nl
    have h1 : (upd H l (.lst xs)) l = some (.lst xs) := upd_same
    have v1 : ∀ y ∈ xs, NV H R l (upd H l (.lst xs)) y := fun y hy R' a _ => (hxs y hy).up a (Nat.le_refl _)
    generalize upd H l (.lst xs) = H1 at e1 h1 v1 ⊢
    dsimp only [gName]
    let J : Nat → L2.St → Hp → Prop := fun k σ' H' => ∃ ys : List V, σ' = [some (.ref p), some (.ref t), some (.str x), some (.int st), some (.ref l)] ∧ Ext H H' ∧ H' l = some (.lst ys) ∧ 2 ≤ ys.length ∧ ys.length ≤ k ∧ ∀ y ∈ ys, NV H R l H' y
    have setJ : ∀ {k : Nat} {H2 : Hp} {ys : List V} {j : Nat} {v : V}, Ext H H2 → H2 l = some (.lst ys) → 2 ≤ ys.length → ys.length ≤ k → (∀ y ∈ ys, NV H R l H2 y) → NV H R l H2 v →
        J k [some (.ref p), some (.ref t), some (.str x), some (.int st), some (.ref l)] (upd H2 l (.lst (ys.set j v))) := fun {k H2 ys j v} e h a b c d => by
      refine ⟨_, rfl, ?_, upd_same, by rw [List.length_set]; exact a, by rw [List.length_set]; exact b, fun y hy => ?_⟩
      · exact Ext.mut e nl
      · rcases List.mem_or_eq_of_mem_set hy with h | rfl
        · exact (c y h).set
        · exact d.set
    have last : ∀ {H2 : Hp} {ys : List V}, Ext H H2 → H2 l = some (.lst ys) → ys.length ≤ m + 1 → (∀ y ∈ ys, NV H R l H2 y) → Q (.ref l) H2 := fun {H2 ys} e h b c => by
      refine q _ _ e fun R' a d _ => ?_
      have hl : R' l = some (.lst ys) := d _ _ (by rw [nw_none nl]; exact h)
      refine ⟨tk_list hl (fun y hy => c y hy R' a fun b o z => d b o (nw_up del_ext b o z)) (by omega), fun b zs e2 h2 => ?_⟩
      cases e2
      rw [hl] at h2
      cases h2
    refine cutN (J m) (fun N hN => ?_) ?_
    · refine ⟨_, rfl, rfl, _, rfl, ?_⟩
      refine ite2 (fun _ => ?_) (fun _ => hN _ _ ⟨xs, rfl, e1, h1, l2, lm, v1⟩)
      refine ⟨by show 1 ≤ sizeLine; decide, fun a7 n7 => ⟨by show 1 ≤ sizeLine; decide, fun a8 n8 => ⟨by show 9 ≤ sizeLine; decide, fun vl nvl => ⟨_, rfl, p, 9, rfl, ?_⟩⟩⟩⟩
      have y2 := Ext.new (H := H1) (o := .lst [.str "send"]) n7
      have k2 : (upd H1 a7 (.lst [.str "send"])) a7 = some (.lst [.str "send"]) := upd_same
      generalize upd H1 a7 _ = H2 at *
      have y3 := Ext.new (H := H2) (o := .tup [.str "send"]) n8
      have k3 : (upd H2 a8 (.tup [.str "send"])) a8 = some (.tup [.str "send"]) := upd_same
      generalize upd H2 a8 _ = H3 at *
      have f3 := y2.trans y3
      have hl3 := f3 _ _ h1
      have g7 := e1.free n7
      have g8 := (e1.trans y2).free n8
      have ne7 : a7 ≠ l := fun z => by rw [z, h1] at n7; cases n7
      have ne8 : a8 ≠ l := fun z => by rw [z, y2 _ _ h1] at n8; cases n8
      have send : ∀ R' : Hp, Tk 0 R' (.str "send") := fun R' => tk_str _ (by decide +kernel) (by decide +kernel)
      have all : ∀ v ∈ ([.str "Send", .str "sent", .str "", .str "else", .str "ended", .int 0, .non, .ref a7, .ref a8] : List V), NV H R l H3 v := by
        intro v hv
        simp only [List.mem_cons, List.not_mem_nil, or_false] at hv
        rcases hv with rfl | rfl | rfl | rfl | rfl | rfl | rfl | rfl | rfl
        · exact nv_of fun R' => tk_str _ (by decide +kernel) (by decide +kernel)
        · exact nv_of fun R' => tk_str _ (by decide +kernel) (by decide +kernel)
        · exact nv_of fun R' => tk_str _ (by decide +kernel) (by decide +kernel)
        · exact nv_of fun R' => tk_str _ (by decide +kernel) (by decide +kernel)
        · exact nv_of fun R' => tk_str _ (by decide +kernel) (by decide +kernel)
        · exact nv_of fun R' => tk_int _ (by decide +kernel) (by decide +kernel)
        · exact nv_of fun R' => tk_non
        · exact nv_new g7 ne7 (y3 _ _ k2) fun R' h => tk_list h (fun y hy => by rw [List.mem_singleton.mp hy]; exact send _) (by decide)
        · exact nv_new g8 ne8 k3 fun R' h => tk_tuple h (fun y hy => by rw [List.mem_singleton.mp hy]; exact send _) (by decide)
      have y4 := Ext.new (H := H3) (o := .lst [.str "Send", .str "sent", .str "", .str "else", .str "ended", .int 0, .non, .ref a7, .ref a8]) nvl
      have k4 : (upd H3 vl (.lst [.str "Send", .str "sent", .str "", .str "else", .str "ended", .int 0, .non, .ref a7, .ref a8])) vl = some (.lst [.str "Send", .str "sent", .str "", .str "else", .str "ended", .int 0, .non, .ref a7, .ref a8]) := upd_same
      generalize upd H3 vl _ = H4 at *
      have f4 := f3.trans y4
      refine ⟨hb.up (e1.trans f4), by decide, by decide, fun r r0 r1 => ?_⟩
      obtain ⟨v, hv, nv⟩ := pick all r0 r1
      exact ⟨vl, _, _, v, rfl, rfl, SqL.of k4, hv, _, rfl, l, _, _, 0, rfl, rfl, f4 _ _ h1, ixi_nat (j := 0) (by omega), hN _ _ (setJ (e1.trans f4) (f4 _ _ h1) l2 lm (fun y hy => (v1 y hy).up f4) (nv.up y4))⟩
    rintro σ' H2 ⟨ys, rfl, e2, h2, l2', lm2, v2⟩
    refine cutN (J m) (fun N hN => ?_) ?_
    · refine ⟨_, rfl, rfl, _, rfl, ?_⟩
      refine ite2 (fun _ => ?_) (fun _ => hN _ _ ⟨ys, rfl, e2, h2, l2', lm2, v2⟩)
      refine ⟨_, rfl, _, _, rfl, rfl, ⟨by decide, by decide, by decide⟩, by show 1 ≤ sizeLine; decide, fun a5 n5 => ⟨by show 6 ≤ sizeLine; decide, fun vl nvl => ⟨_, rfl, p, 6, rfl, ?_⟩⟩⟩
      have y3 := Ext.new (H := H2) (o := .tup [.int 0]) n5
      have k3 : (upd H2 a5 (.tup [.int 0])) a5 = some (.tup [.int 0]) := upd_same
      generalize upd H2 a5 _ = H3 at *
      have g5 := e2.free n5
      have ne5 : a5 ≠ l := fun z => by rw [z, h2] at n5; cases n5
      have all : ∀ v ∈ ([.int (-1), .bl true, .non, .str "0", .int (10 ^ (39 : Int).toNat), .ref a5] : List V), NV H R l H3 v := by
        intro v hv
        simp only [List.mem_cons, List.not_mem_nil, or_false] at hv
        rcases hv with rfl | rfl | rfl | rfl | rfl | rfl
        · exact nv_of fun R' => tk_int _ (by decide +kernel) (by decide +kernel)
        · exact nv_of fun R' => tk_bl _
        · exact nv_of fun R' => tk_non
        · exact nv_of fun R' => tk_str _ (by decide +kernel) (by decide +kernel)
        · exact nv_of fun R' => tk_int _ (by decide +kernel) (by decide +kernel)
        · exact nv_new g5 ne5 k3 fun R' h => tk_tuple h (fun y hy => by rw [List.mem_singleton.mp hy]; exact tk_int _ (by decide +kernel) (by decide +kernel)) (by decide)
      have y4 := Ext.new (H := H3) (o := .lst [.int (-1), .bl true, .non, .str "0", .int (10 ^ (39 : Int).toNat), .ref a5]) nvl
      have k4 : (upd H3 vl (.lst [.int (-1), .bl true, .non, .str "0", .int (10 ^ (39 : Int).toNat), .ref a5])) vl = some (.lst [.int (-1), .bl true, .non, .str "0", .int (10 ^ (39 : Int).toNat), .ref a5]) := upd_same
      generalize upd H3 vl _ = H4 at *
      have f4 := y3.trans y4
      refine ⟨hb.up (e2.trans f4), by decide, by decide, fun r r0 r1 => ?_⟩
      obtain ⟨v, hv, nv⟩ := pick all r0 r1
      exact ⟨vl, _, _, v, rfl, rfl, SqL.of k4, hv, _, rfl, _, rfl, l, _, _, _, rfl, rfl, f4 _ _ h2, ixi_last (by omega), hN _ _ (setJ (e2.trans f4) (f4 _ _ h2) l2' lm2 (fun y hy => (v2 y hy).up f4) (nv.up y4))⟩
    rintro σ' H3 ⟨ys3, rfl, e3, h3, l23, lm3, v3⟩
    refine cutN (J (m + 1)) (fun N hN => ?_) ?_
    · refine ⟨_, rfl, rfl, _, rfl, ?_⟩
      refine ite2 (fun _ => ?_) (fun _ => hN _ _ ⟨ys3, rfl, e3, h3, l23, by omega, v3⟩)
      refine ⟨_, rfl, .inl ⟨rfl, _, SqL.of h3⟩, _, rfl, _, rfl, l, _, rfl, .inl (SqL.of h3), _, _, rfl, rfl, p, _, rfl, hb.up e3, by omega, by omega, fun r r0 r1 => ⟨_, rfl, _, rfl, p, x, rfl, hb.up e3, hx, fun v H4 e4 od => ?_⟩⟩
      have h4 := e4 _ _ h3
      refine ⟨l, ys3, r, v, rfl, rfl, h4, by omega, r0, by omega, hN _ _ ⟨_, rfl, Ext.mut (e3.trans e4) nl, upd_same, ?_, ?_, fun y hy => ?_⟩⟩
      · simp only [List.length_append, List.length_take, List.length_drop, List.length_singleton]
        omega
      · simp only [List.length_append, List.length_take, List.length_drop, List.length_singleton]
        omega
      · simp only [List.mem_append, List.mem_singleton] at hy
        rcases hy with (hy | rfl) | hy
        · exact ((v3 y (List.mem_of_mem_take hy)).up e4).set
        · refine NV.set fun R' a b => (od.up fun b2 o z => ?_).1
          obtain ⟨z1, z2⟩ := nw_some z
          exact b b2 o (by rw [nw_none (e3.free z1), del_ne (fun y => by rw [y, h3] at z1; cases z1)]; exact z2)
        · exact ((v3 y (List.mem_of_mem_drop hy)).up e4).set
    rintro σ' H4 ⟨ys4, rfl, e4, h4, l24, lm4, v4⟩
    refine ⟨_, rfl, rfl, _, rfl, ?_⟩
    refine ite2 (fun _ => ⟨_, rfl, last e4 h4 lm4 v4⟩) (fun _ => ?_)
    refine ⟨_, rfl, rfl, _, rfl, ?_⟩
    refine ite2 (fun _ => ?_) (fun _ => ?_)
    · refine ⟨_, rfl, _, rfl, p, x, rfl, hb.up e4, hx, fun v H5 e5 od => q _ _ (e4.trans e5) fun R' a b _ => ?_⟩
      have od' := od.up fun b2 o z => b b2 o (nw_down e4 b2 o z)
      exact ⟨od'.1.up (Ext.refl _) (by omega), fun b2 zs ez hz => Nat.le_trans ((od'.2 b2 zs ez).2 hz) (by omega)⟩
    dsimp only [tNext]
    refine cutN (J (m + 1)) (fun N hN => ?_) ?_
    · refine ⟨_, rfl, rfl, _, rfl, ?_⟩
      refine ite2 (fun _ => ?_) (fun _ => hN _ _ ⟨ys4, rfl, e4, h4, l24, lm4, v4⟩)
      refine ⟨_, rfl, l, _, rfl, .inl (SqL.of h4), rfl, _, rfl, ?_⟩
      refine ite2 (fun _ => ?_) (fun _ => hN _ _ ⟨ys4, rfl, e4, h4, l24, lm4, v4⟩)
      refine ⟨_, rfl, rfl, x, rfl, rfl, by omega, _, rfl, x, rfl, rfl, xlen1, xlen, _, rfl, by show 1 ≤ sizeLine; decide, fun a5 n5 => ⟨_, rfl, _, rfl, x, rfl, by omega, _, _, rfl, rfl, ?_, by show 8 ≤ sizeLine; decide, fun vl nvl => ⟨_, rfl, p, 8, rfl, ?_⟩⟩⟩
      · have := cutS_length x none (some 7)
        show (cutS x none (some 7)).length + 1 ≤ _
        omega
      have y5 := Ext.new (H := H4) (o := .lst [.str x]) n5
      have k5 : (upd H4 a5 (.lst [.str x])) a5 = some (.lst [.str x]) := upd_same
      generalize upd H4 a5 _ = H5 at *
      have g5 := e4.free n5
      have ne5 : a5 ≠ l := fun z => by rw [z, h4] at n5; cases n5
      have up128 : ∀ c, c < 128 → up1 c < 128 := fun c hc => by unfold up1; split <;> omega
      have all : ∀ v ∈ ([.str (Txt.upper x), .str "", .str (rep9 x), .int 0, .non, .ref a5, .str "a b", .str (cutS x none (some 7) ++ "1")] : List V), NV H R l H5 v := by
        intro v hv
        simp only [List.mem_cons, List.not_mem_nil, or_false] at hv
        rcases hv with rfl | rfl | rfl | rfl | rfl | rfl | rfl | rfl
        · refine nv_of fun R' => ?_
          have eu := upper_ascii (x := x) x128
          rw [eu]
          have et : tl (⟨x.cps.map up1⟩ : Str) = (tl x).map up1 := by simp [tl]
          refine tk_str _ ?_ fun c hc => ?_
          · rw [tlen, et, List.length_map]
            omega
          · rw [et] at hc
            obtain ⟨c0, h0, rfl⟩ := List.mem_map.mp hc
            exact up128 _ (x128 _ h0)
        · exact nv_of fun R' => tk_str _ (by decide +kernel) (by decide +kernel)
        · exact fun R' _ _ => ⟨_, .str _, kd_leaf (gd_text _ (Nat.le_trans (rep9_len xlen) (by decide)) fun c hc => x128 c (rep9_mem hc)) rfl⟩
        · exact nv_of fun R' => tk_int _ (by decide +kernel) (by decide +kernel)
        · exact nv_of fun R' => tk_non
        · exact nv_new g5 ne5 k5 fun R' h => tk_list h (fun y hy => by rw [List.mem_singleton.mp hy]; exact tk_name hx) (by simp)
        · exact nv_of fun R' => tk_str _ (by decide +kernel) (by decide +kernel)
        · refine nv_of fun R' => ?_
          have e1 : (tl (Str.ofString "1")).length = 1 := by decide +kernel
          have e2 : ∀ c ∈ tl (Str.ofString "1"), c < 128 := by decide +kernel
          have e3 : tl (cutS x none (some 7)) = (tl x).take 7 := cutS_take x 7
          refine tk_str _ ?_ fun c hc => ?_
          · rw [tlen, tl_app, List.length_append, e3, List.length_take]
            omega
          · rw [tl_app, e3] at hc
            rcases List.mem_append.mp hc with h | h
            · exact x128 c (List.mem_of_mem_take h)
            · exact e2 c h
      have y6 := Ext.new (H := H5) (o := .lst [.str (Txt.upper x), .str "", .str (rep9 x), .int 0, .non, .ref a5, .str "a b", .str (cutS x none (some 7) ++ "1")]) nvl
      have k6 : (upd H5 vl (.lst [.str (Txt.upper x), .str "", .str (rep9 x), .int 0, .non, .ref a5, .str "a b", .str (cutS x none (some 7) ++ "1")])) vl = some (.lst [.str (Txt.upper x), .str "", .str (rep9 x), .int 0, .non, .ref a5, .str "a b", .str (cutS x none (some 7) ++ "1")]) := upd_same
      generalize upd H5 vl _ = H6 at *
      have f6 := y5.trans y6
      refine ⟨hb.up (e4.trans f6), by decide, by decide, fun r r0 r1 => ?_⟩
      obtain ⟨v, hv, nv⟩ := pick all r0 r1
      exact ⟨vl, _, _, v, rfl, rfl, SqL.of k6, hv, _, rfl, l, _, _, 1, rfl, rfl, f6 _ _ h4, ixi_nat (j := 1) (by omega), hN _ _ (setJ (e4.trans f6) (f6 _ _ h4) l24 lm4 (fun y hy => (v4 y hy).up f6) (nv.up y6))⟩
    rintro σ' H5 ⟨ys5, rfl, e5, h5, l25, lm5, v5⟩
    refine ⟨_, rfl, l, ys5, rfl, .inl ⟨SqL.of h5, fun t2 nt2 => ?_⟩⟩
    have y6 := Ext.new (H := H5) (o := .tup ys5) nt2
    have k6 : (upd H5 t2 (.tup ys5)) t2 = some (.tup ys5) := upd_same
    refine q _ _ (e5.trans y6) fun R' a b _ => ?_
    have ht2 : R' t2 = some (.tup ys5) := b _ _ (by rw [nw_none (e5.free nt2)]; exact k6)
    refine ⟨tk_tuple ht2 (fun y hy => v5 y hy R' a fun b2 o z => b b2 o (nw_up (del_ext.trans y6) b2 o z)) (by omega), fun b2 zs ez hz => ?_⟩
    cases ez
    rw [ht2] at hz
    cases hz
    exact lm5
end
end K22

set_option Elab.async false
set_option linter.all false
set_option maxRecDepth 100000
set_option maxHeartbeats 4000000
namespace K22
open PySem PySem.Spec PyProof.Rows L2 Ol RZ
open TL (tl)
/-! ### lists that change, by their level: 1 arms, 2 rows, 3 the whole -/
abbrev Lev := Addr → Nat
/-- the heap without them -/
def rm (lev : Lev) (H : Hp) : Hp := fun b => if lev b = 0 then H b else none
theorem rm_at {lev : Lev} {H : Hp} {b : Addr} (h : lev b = 0) : rm lev H b = H b := if_pos h
theorem rm_some {lev : Lev} {H : Hp} {b : Addr} {o : HO} (h : rm lev H b = some o) : lev b = 0 ∧ H b = some o := by
  unfold rm at h
  by_cases c : lev b = 0
  · rw [if_pos c] at h
    exact ⟨c, h⟩
  · rw [if_neg c] at h
    cases h
theorem rm_sub {lev : Lev} {H : Hp} : Ext (rm lev H) H := fun b o h => (rm_some h).2
theorem rm_ext {lev : Lev} {H H' : Hp} (e : Ext H H') : Ext (rm lev H) (rm lev H') := fun b o h => by
  obtain ⟨h1, h2⟩ := rm_some h
  rw [rm_at h1]
  exact e _ _ h2
theorem rm_upd {lev : Lev} {H : Hp} {a : Addr} {o : HO} (h : lev a ≠ 0) : rm lev (upd H a o) = rm lev H := by
  funext b
  unfold rm
  by_cases c : b = a
  · rw [c, if_neg h, if_neg h]
  · rw [upd_ne c]
def Pt (lev : Lev) (H : Hp) (x : V) : Prop := Od (rm lev H) x ∨ ∃ b, x = .ref b ∧ lev b = 1
def Rw (lev : Lev) (H : Hp) (x : V) : Prop := Od (rm lev H) x ∨ ∃ b, x = .ref b ∧ lev b = 2
theorem Pt.up {lev : Lev} {H H' : Hp} {x : V} (e : Ext H H') : Pt lev H x → Pt lev H' x := Or.imp_left fun h => h.up (rm_ext e)
theorem Rw.up {lev : Lev} {H H' : Hp} {x : V} (e : Ext H H') : Rw lev H x → Rw lev H' x := Or.imp_left fun h => h.up (rm_ext e)
theorem Bt.up {m m' : Nat} {R R' : Hp} {x : V} (h : Bt m R x) (e : Ext R R') (l : m ≤ m') : Bt m' R' x := by
  refine ⟨h.1.up e (Nat.le_refl _), fun a xs ev hx => ?_⟩
  subst ev
  obtain ⟨⟨d, hd, _⟩, h2⟩ := h
  have back : ∀ o, R' a = some o → R a = some o := fun o ho => by
    cases hd with
    | lst h1 _ =>
      rw [e _ _ h1] at ho
      rw [h1, ho]
    | tup h1 _ =>
      rw [e _ _ h1] at ho
      rw [h1, ho]
    | dct h1 _ =>
      rw [e _ _ h1] at ho
      rw [h1, ho]
  exact Nat.le_trans (h2 a xs rfl (back _ hx)) l
/-- what holds while a program is put otherwise -/
structure Reg (lev : Lev) (m n : Nat) (H0 H : Hp) (O : Addr) : Prop where
  le : ∀ a, lev a ≤ 3
  new : ∀ a, lev a ≠ 0 → H0 a = none
  ext : Ext H0 H
  top : lev O = 3
  only : ∀ a, lev a = 3 → a = O
  r1 : ∀ a, lev a = 1 → ∃ xs, H a = some (.lst xs) ∧ xs.length ≤ 5 ∧ ∀ x ∈ xs, Bt m (rm lev H) x
  r2 : ∀ a, lev a = 2 → ∃ xs, H a = some (.lst xs) ∧ xs.length ≤ 3 ∧ ∀ x ∈ xs, Pt lev H x
  r3 : ∃ xs, H O = some (.lst xs) ∧ xs.length = n ∧ ∀ x ∈ xs, Rw lev H x
section
variable {lev : Lev} {m n : Nat} {H0 H H' : Hp} {O : Addr}
theorem Reg.there (r : Reg lev m n H0 H O) {a : Addr} (h : lev a ≠ 0) : ∃ xs, H a = some (.lst xs) := by
  have := r.le a
  have : lev a = 1 ∨ lev a = 2 ∨ lev a = 3 := by omega
  rcases this with z | z | z
  · obtain ⟨xs, h, _⟩ := r.r1 a z
    exact ⟨xs, h⟩
  · obtain ⟨xs, h, _⟩ := r.r2 a z
    exact ⟨xs, h⟩
  · rw [r.only a z]
    obtain ⟨xs, h, _⟩ := r.r3
    exact ⟨xs, h⟩
theorem Reg.fresh (r : Reg lev m n H0 H O) {a : Addr} (h : H a = none) : lev a = 0 := by
  by_cases c : lev a = 0
  · exact c
  · obtain ⟨xs, z⟩ := r.there c
    rw [h] at z
    cases z
/-- what is new stands beside them -/
theorem Reg.nw (r : Reg lev m n H0 H O) : Ext (nwH H H') (rm lev H') := fun b o h => by
  obtain ⟨h1, h2⟩ := nw_some h
  rw [rm_at (r.fresh h1)]
  exact h2
theorem Reg.up (r : Reg lev m n H0 H O) (e : Ext H H') : Reg lev m n H0 H' O where
  le := r.le
  new := r.new
  ext := r.ext.trans e
  top := r.top
  only := r.only
  r1 := fun a h => by
    obtain ⟨xs, h1, h2, h3⟩ := r.r1 a h
    exact ⟨xs, e _ _ h1, h2, fun x hx => (h3 x hx).up (rm_ext e) (Nat.le_refl _)⟩
  r2 := fun a h => by
    obtain ⟨xs, h1, h2, h3⟩ := r.r2 a h
    exact ⟨xs, e _ _ h1, h2, fun x hx => (h3 x hx).up e⟩
  r3 := by
    obtain ⟨xs, h1, h2, h3⟩ := r.r3
    exact ⟨xs, e _ _ h1, h2, fun x hx => (h3 x hx).up e⟩
theorem Reg.more {m' : Nat} (r : Reg lev m n H0 H O) (l : m ≤ m') : Reg lev m' n H0 H O :=
  ⟨r.le, r.new, r.ext, r.top, r.only, fun a h => by
      obtain ⟨xs, h1, h2, h3⟩ := r.r1 a h
      exact ⟨xs, h1, h2, fun x hx => (h3 x hx).up (Ext.refl _) l⟩, r.r2, r.r3⟩
theorem pt_set {a : Addr} {o : HO} {x : V} (h : lev a ≠ 0) (p : Pt lev H x) : Pt lev (upd H a o) x := by
  unfold Pt
  rw [rm_upd h]
  exact p
theorem rw_set {a : Addr} {o : HO} {x : V} (h : lev a ≠ 0) (p : Rw lev H x) : Rw lev (upd H a o) x := by
  unfold Rw
  rw [rm_upd h]
  exact p
theorem Reg.set1 (r : Reg lev m n H0 H O) {a : Addr} {ys : List V} (h : lev a = 1) (l : ys.length ≤ 5) (hy : ∀ y ∈ ys, Bt m (rm lev H) y) : Reg lev m n H0 (upd H a (.lst ys)) O := by
  have h0 : lev a ≠ 0 := by omega
  refine ⟨r.le, r.new, Ext.mut r.ext (r.new a h0), r.top, r.only, fun b hb => ?_, fun b hb => ?_, ?_⟩
  · rw [rm_upd h0]
    by_cases c : b = a
    · rw [c]
      exact ⟨ys, upd_same, l, hy⟩
    · obtain ⟨xs, h1, h2, h3⟩ := r.r1 b hb
      exact ⟨xs, by rw [upd_ne c]; exact h1, h2, h3⟩
  · obtain ⟨xs, h1, h2, h3⟩ := r.r2 b hb
    exact ⟨xs, by rw [upd_ne (fun z => by rw [z, h] at hb; omega)]; exact h1, h2, fun x hx => pt_set h0 (h3 x hx)⟩
  · obtain ⟨xs, h1, h2, h3⟩ := r.r3
    exact ⟨xs, by rw [upd_ne (fun z => by have := r.top; rw [z, h] at this; omega)]; exact h1, h2, fun x hx => rw_set h0 (h3 x hx)⟩
theorem Reg.set2 (r : Reg lev m n H0 H O) {a : Addr} {ys : List V} (h : lev a = 2) (l : ys.length ≤ 3) (hy : ∀ y ∈ ys, Pt lev H y) : Reg lev m n H0 (upd H a (.lst ys)) O := by
  have h0 : lev a ≠ 0 := by omega
  refine ⟨r.le, r.new, Ext.mut r.ext (r.new a h0), r.top, r.only, fun b hb => ?_, fun b hb => ?_, ?_⟩
  · rw [rm_upd h0]
    obtain ⟨xs, h1, h2, h3⟩ := r.r1 b hb
    exact ⟨xs, by rw [upd_ne (fun z => by rw [z, h] at hb; omega)]; exact h1, h2, h3⟩
  · by_cases c : b = a
    · rw [c]
      exact ⟨ys, upd_same, l, fun x hx => pt_set h0 (hy x hx)⟩
    · obtain ⟨xs, h1, h2, h3⟩ := r.r2 b hb
      exact ⟨xs, by rw [upd_ne c]; exact h1, h2, fun x hx => pt_set h0 (h3 x hx)⟩
  · obtain ⟨xs, h1, h2, h3⟩ := r.r3
    exact ⟨xs, by rw [upd_ne (fun z => by have := r.top; rw [z, h] at this; omega)]; exact h1, h2, fun x hx => rw_set h0 (h3 x hx)⟩
theorem Reg.set3 {n' : Nat} (r : Reg lev m n H0 H O) {ys : List V} (l : ys.length = n') (hy : ∀ y ∈ ys, Rw lev H y) : Reg lev m n' H0 (upd H O (.lst ys)) O := by
  have h := r.top
  have h0 : lev O ≠ 0 := by omega
  refine ⟨r.le, r.new, Ext.mut r.ext (r.new O h0), r.top, r.only, fun b hb => ?_, fun b hb => ?_, ?_⟩
  · rw [rm_upd h0]
    obtain ⟨xs, h1, h2, h3⟩ := r.r1 b hb
    exact ⟨xs, by rw [upd_ne (fun z => by rw [z, h] at hb; omega)]; exact h1, h2, h3⟩
  · obtain ⟨xs, h1, h2, h3⟩ := r.r2 b hb
    exact ⟨xs, by rw [upd_ne (fun z => by rw [z, h] at hb; omega)]; exact h1, h2, fun x hx => pt_set h0 (h3 x hx)⟩
  · exact ⟨ys, upd_same, l, fun x hx => rw_set h0 (hy x hx)⟩
/-- one list more -/
def levA (lev : Lev) (c k : Nat) : Lev := fun b => if b = c then k else lev b
theorem levA_at {c k : Nat} : levA lev c k c = k := if_pos rfl
theorem levA_ne {b c k : Nat} (h : b ≠ c) : levA lev c k b = lev b := if_neg h
theorem rm_levA {c k : Nat} {H1 : Hp} (e : Ext H H1) (hc : H c = none) : Ext (rm lev H) (rm (levA lev c k) H1) := fun b o h => by
  obtain ⟨h1, h2⟩ := rm_some h
  have n : b ≠ c := fun z => by rw [z, hc] at h2; cases h2
  rw [rm_at (by rw [levA_ne n]; exact h1)]
  exact e _ _ h2
theorem Reg.add {c k : Nat} {xs : List V} (r : Reg lev m n H0 H O) (e : Ext H H') (hc : H c = none) (hc' : H' c = some (.lst xs)) (hk : k = 1 ∨ k = 2)
    (h1 : k = 1 → xs.length ≤ 5 ∧ ∀ x ∈ xs, Bt m (rm (levA lev c k) H') x) (h2 : k = 2 → xs.length ≤ 3 ∧ ∀ x ∈ xs, Pt (levA lev c k) H' x) : Reg (levA lev c k) m n H0 H' O := by
  have fr := r.fresh hc
  have ex := rm_levA (lev := lev) (k := k) e hc
  have pts : ∀ x, Pt lev H x → Pt (levA lev c k) H' x := fun x h => h.imp (fun z => z.up ex) fun ⟨b, z1, z2⟩ => ⟨b, z1, by
    rw [levA_ne (fun y => by rw [y, fr] at z2; omega)]
    exact z2⟩
  have rws : ∀ x, Rw lev H x → Rw (levA lev c k) H' x := fun x h => h.imp (fun z => z.up ex) fun ⟨b, z1, z2⟩ => ⟨b, z1, by
    rw [levA_ne (fun y => by rw [y, fr] at z2; omega)]
    exact z2⟩
  have nO : O ≠ c := fun y => by have := r.top; rw [y, fr] at this; omega
  refine ⟨fun a => ?_, fun a ha => ?_, r.ext.trans e, by rw [levA_ne nO]; exact r.top, fun a ha => ?_, fun a ha => ?_, fun a ha => ?_, ?_⟩
  · unfold levA
    split
    · omega
    · exact r.le a
  · by_cases z : a = c
    · rw [z]
      exact r.ext.free hc
    · rw [levA_ne z] at ha
      exact r.new a ha
  · by_cases z : a = c
    · rw [z, levA_at] at ha
      omega
    · rw [levA_ne z] at ha
      exact r.only a ha
  · by_cases z : a = c
    · rw [z, levA_at] at ha
      rw [z]
      exact ⟨xs, hc', h1 ha⟩
    · rw [levA_ne z] at ha
      obtain ⟨ys, g1, g2, g3⟩ := r.r1 a ha
      exact ⟨ys, e _ _ g1, g2, fun x hx => (g3 x hx).up ex (Nat.le_refl _)⟩
  · by_cases z : a = c
    · rw [z, levA_at] at ha
      rw [z]
      exact ⟨xs, hc', h2 ha⟩
    · rw [levA_ne z] at ha
      obtain ⟨ys, g1, g2, g3⟩ := r.r2 a ha
      exact ⟨ys, e _ _ g1, g2, fun x hx => pts x (g3 x hx)⟩
  · obtain ⟨ys, g1, g2, g3⟩ := r.r3
    exact ⟨ys, e _ _ g1, g2, fun x hx => rws x (g3 x hx)⟩
theorem reg_start (e : Ext H0 H) (h0 : H0 O = none) (h : H O = some (.lst [])) : Reg (fun b => if b = O then 3 else 0) m 0 H0 H O := by
  refine ⟨fun a => ?_, fun a ha => ?_, e, if_pos rfl, fun a ha => ?_, fun a ha => ?_, fun a ha => ?_, [], h, rfl, fun x hx => nomatch hx⟩
  · show (if a = O then 3 else 0) ≤ 3
    split <;> omega
  · by_cases z : a = O
    · rw [z]
      exact h0
    · have : (if a = O then 3 else 0) ≠ 0 := ha
      rw [if_neg z] at this
      exact absurd rfl this
  · by_cases z : a = O
    · exact z
    · have : (if a = O then 3 else 0) = 3 := ha
      rw [if_neg z] at this
      omega
  · have : (if a = O then 3 else 0) = 1 := ha
    split at this <;> omega
  · have : (if a = O then 3 else 0) = 2 := ha
    split at this <;> omega
/-- all in all -/
theorem Reg.tk1 (r : Reg lev m n H0 H O) {a : Addr} (h : lev a = 1) : Tk 3 H (.ref a) := by
  obtain ⟨xs, h1, h2, h3⟩ := r.r1 a h
  exact tk_list h1 (fun x hx => (h3 x hx).1.up rm_sub (Nat.le_refl _)) h2
theorem Reg.tkP (r : Reg lev m n H0 H O) {x : V} (h : Pt lev H x) : Tk 3 H x := by
  rcases h with h | ⟨b, rfl, hb⟩
  · exact h.1.up rm_sub (by omega)
  · exact r.tk1 hb
theorem Reg.tk2 (r : Reg lev m n H0 H O) {a : Addr} (h : lev a = 2) : Tk 4 H (.ref a) := by
  obtain ⟨xs, h1, h2, h3⟩ := r.r2 a h
  exact tk_list h1 (fun x hx => r.tkP (h3 x hx)) (by omega)
theorem Reg.tkR (r : Reg lev m n H0 H O) {x : V} (h : Rw lev H x) : Tk 4 H x := by
  rcases h with h | ⟨b, rfl, hb⟩
  · exact h.1.up rm_sub (by omega)
  · exact r.tk2 hb
theorem Reg.tk (r : Reg lev m n H0 H O) (h : n ≤ 5) : Tk 5 H (.ref O) := by
  obtain ⟨xs, h1, h2, h3⟩ := r.r3
  exact tk_list h1 (fun x hx => r.tkR (h3 x hx)) (by omega)
end
end K22

set_option Elab.async false
set_option linter.all false
set_option maxRecDepth 100000
set_option maxHeartbeats 4000000
namespace K22
open PySem PySem.Spec PyProof.Rows L2 Ol RZ
open TL (tl)
/-! ### the law -/
theorem lay_str {x : Str} (h : PyData.strOk x = true) : (PyData.str x).canLay0 = true := by
  rw [PyData.canLay0]
  exact h
theorem sh_pair {x : Str} {d : PyData} (hx : PyData.strOk x = true) (h : d.canLay0 = true) (l : d.depth ≤ 60) : SeqAt.shaped (.tuple [.str x, d]) = true := by
  refine lay_shaped ?_ ?_
  · rw [PyData.canLay0]
    refine lay_all fun e he => ?_
    simp only [List.mem_cons, List.not_mem_nil, or_false] at he
    rcases he with rfl | rfl
    · exact lay_str hx
    · exact h
  · simp [PyData.depth, PyData.depthAll]
    omega
theorem lay_int (i : Int) : (PyData.int i).canLay0 = true := by simp [PyData.canLay0]
/-- what is due can be compared -/
theorem res_shaped {d : PyData} {r : Res} (h : Due d r) : SeqAt.shaped (resD r) = true := by
  have dep : ∀ i : Int, (PyData.int i).depth ≤ 60 := fun i => by simp [PyData.depth]
  rcases h with ⟨_, rfl⟩ | ⟨hs, _, _, gp, rfl⟩
  · exact sh_pair (by decide +kernel) (lay_int _) (dep _)
  · unfold resP
    cases hb : badP (hs.map (·.1)).length (hs.map (·.1)) with
    | some g => exact sh_pair (by decide +kernel) (lay_int _) (dep _)
    | none =>
      cases ht : twoP (hs.map (·.1)) with
      | some i => exact sh_pair (by decide +kernel) (lay_int _) (dep _)
      | none =>
        have ok := pls_of gp hb ht
        refine sh_pair (by decide +kernel) (lay_places ok) ?_
        have hg : ∀ d ∈ (hs.map (·.1)).map placeD, Gd 3 d := fun d hd => by
          obtain ⟨p, hp, rfl⟩ := List.mem_map.mp hd
          exact gd_place (ok.ok p hp) ok.few
        have := (all_sh hg).2.1
        simp only [PyData.depth]
        omega
theorem kd_tupled {n : Nat} {ds : List PyData} (k : Kd (n + 1) (.list ds)) : Kd (n + 1) (.tuple ds) := kd_tuple (k.2 ds rfl).2 (k.2 ds rfl).1
theorem pt_levA {lev : Lev} {m n : Nat} {H0 H H' : Hp} {O c : Addr} {k : Nat} {x : V} (r : Reg lev m n H0 H O) (e : Ext H H') (hc : H c = none) (h : Pt lev H x) : Pt (levA lev c k) H' x := by
  have fr := r.fresh hc
  exact h.imp (fun z => z.up (rm_levA e hc)) fun ⟨b, z1, z2⟩ => ⟨b, z1, by
    rw [levA_ne (fun y => by rw [y, fr] at z2; omega)]
    exact z2⟩
theorem dq_mem {H : Hp} : ∀ {xs : List V} {ds : List PyData} {y : V}, DqAll H xs ds → y ∈ xs → ∃ d, d ∈ ds ∧ Dq H y d
  | _, _, _, .nil, h => nomatch h
  | _, _, y, .cons a t, h => by
    rcases List.mem_cons.mp h with rfl | h
    · exact ⟨_, List.mem_cons_self, a⟩
    · obtain ⟨d, h1, h2⟩ := dq_mem t h
      exact ⟨d, List.mem_cons_of_mem _ h1, h2⟩
theorem kl_inv {R : Hp} {v : V} {d : PyData} (h : Dq R v d) (g : kL d = true) : ∃ b ws, v = .ref b ∧ R b = some (.lst ws) := by
  cases h with
  | lst h1 _ => exact ⟨_, _, rfl, h1⟩
  | _ => cases g
theorem kd_arm {a : Arm} (h : GArm a) (hg : a.2 ≤ 6) : Kd 1 (armD a) := by
  obtain ⟨o, g⟩ := a
  cases o with
  | none =>
    refine kd_tuple (fun d hd => ?_) (by simp)
    simp only [List.mem_cons, List.not_mem_nil, or_false] at hd
    rcases hd with rfl | rfl
    · exact kd_leaf (gd_str _ (by decide +kernel) (by decide +kernel)) rfl
    · exact kd_leaf (gd_nat5 hg) rfl
  | some p =>
    obtain ⟨w, l⟩ := p
    have h' : w ∈ words4 ∧ isNameS l = true := h
    refine kd_tuple (fun d hd => ?_) (by simp)
    simp only [List.mem_cons, List.not_mem_nil, or_false] at hd
    rcases hd with rfl | rfl | rfl
    · exact kd_leaf (word_gd _ h'.1) rfl
    · exact kd_leaf (name_gd h'.2) rfl
    · exact kd_leaf (gd_nat5 hg) rfl
section
variable {P : Program} {w : World} {K : PySem.W.Frag} {mg : Str → Option Value} {base : Heap} {C NP TO W : Addr}
theorem ki_ll : PySem.W.kitOne K (.type "list") (.type "list") = some true := kit_ty (by decide +kernel : kitB "list" "list" = some true)
theorem ki_tt : PySem.W.kitOne K (.type "tuple") (.type "tuple") = some true := kit_ty (by decide +kernel : kitB "tuple" "tuple" = some true)
abbrev s_law : Stmt := (topS 36)
abbrev nLaw : List Str := ["_law_script", "_law_bag_here", "_law_turn", "_law_names_here", "_law_places", "_law_thing", "_law_place", "_law_arms", "_law_bent_here", "_law_at", "_law_style", "_law_whole", "_law_k", "_law_due_here", "_law_shown", "_law_again", "_law_one"]
theorem sc_law : FnScope nLaw ["_law_script"] (defScope s_law) := ⟨rfl, rfl, rfl, by decide +kernel, rfl, by decide +kernel, by decide +kernel⟩
def spLaw (K : PySem.W.Frag) : Sp := fun vs H Q _ => ∃ (a : Addr) (ns : List Int), vs = [.ref a] ∧ Sys H ∧ SqL K H a (ns.map V.int) ∧ ns.length ≤ 63 ∧ ∀ H', Q (.bl true) H'
theorem ok_law {f : Addr} {fd : FuncData} (F : Fun K "law" "law" s_law f fd) (T : BT mg) (L : PT K mg C) 
    (CB : Ca P w K mg base 1 "_law_bag" ["_law_script"] (spBag K)) (CT : Ca P w K mg base 1 "_law_take" ["_law_bag_here", "_law_many"] spTake)
    (CN : Ca P w K mg base 2 "_law_names" ["_law_bag_here", "_law_many"] spNames) (CO : Ca P w K mg base 2 "_law_odd" ["_law_bag_here", "_law_name"] spOdd)
    (CAr : Ca P w K mg base 2 "_law_arm" ["_law_bag_here", "_law_names_here", "_law_places"] spArm) (CBe : Ca P w K mg base 3 "_law_bent" ["_law_bag_here", "_law_arm_here", "_law_name"] spBent)
    (CDu : Ca P w K mg base 3 "_law_due" ["_law_thing"] spDue) (CTo : Ca P w K mg base 11 "_law_told" ["_law_thing"] (spTold C)) (MK : MkX P w K mg base C W NP TO) :
    FnG P w K mg base 12 f fd ["_law_script"] (spLaw K) := by
  obtain ⟨fK, fdK, FK, mkK, bK⟩ := MK.has
  refine okG F sc_law (fun vs H Q E h => ?_) (fun cdv A outer s H vs Q E hG hr h => ?_)
  · obtain ⟨a, ns, rfl, _⟩ := h
    rfl
  · obtain ⟨a, zs0, rfl, hS, hs, hl, q⟩ := h
    refine ⟨_, (pss_cons (ps_set (i := 1) sc_law.nd rfl (.inr rfl) (pe_ca CB (hr.mono (by decide)) (by rfl) (pa_cons (pv 0) pa_nil)))
    (pss_cons (ps_for PassesOwn.never rfl (pi_range1 (by rfl) T.n_range (pa_cons pe_int pa_nil)) (pg_name (i := 2) sc_law.nd rfl (.inl rfl))
      (pss_cons (ps_asg (pe_tup (pa_cons (pe_ca CN (hr.mono (by decide)) (by rfl) (pa_cons (pv 1) (pa_cons pe_int pa_nil))) (pa_cons (pe_op op_add pe_int (pe_ca CT (hr.mono (by decide)) (by rfl) (pa_cons (pv 1) (pa_cons pe_int pa_nil)))) pa_nil))) (pg_tup (by rfl) (pgs_cons (pg_name (i := 3) sc_law.nd rfl (.inr rfl)) (pgs_cons (pg_name (i := 4) sc_law.nd rfl (.inr rfl)) pgs_nil))))
      (pss_cons (ps_set (i := 5) sc_law.nd rfl (.inl rfl) (pe_lst pa_nil))
      (pss_cons (ps_for PassesOwn.never rfl (pi_range1 (by rfl) T.n_range (pa_cons (pv 4) pa_nil)) (pg_name (i := 6) sc_law.nd rfl (.inl rfl))
        (pss_cons (ps_setLc (i := 7) (own := [("_law_k", 12)]) (g := gName 12) (tt := tYes) rfl sc_law.nd rfl rfl (sw_true rfl rfl rfl (by decide +kernel)) (pi_range1 (by rfl) T.n_range (pa_cons (pe_ca CT (hr.mono (by decide)) (by rfl) (pa_cons (pv 1) (pa_cons pe_int pa_nil))) pa_nil)) (blkOk_by (N := nLaw) (sc := defScope s_law) (by decide +kernel)) (fun _ _ _ _ _ => (pg_name (i := 12) sc_law.nd rfl (.inl rfl))) (fun _ _ _ _ _ => pts_nil) (fun _ _ _ _ _ => (pe_ca CAr (hr.mono (by decide)) (by rfl) (pa_cons (pv 1) (pa_cons (pv 3) (pa_cons (pv 4) pa_nil))))))
        (pss_one (ps_expr (pe_bm PySem.F.plainAttrs_list PySem.F.slot_list_append PySem.F.type_list_append mt_append (pv 5) (pa_cons (pe_lst (pa_cons (pe_ix ix_list (pe_lst (pa_cons pe_str (pa_cons pe_str pa_nil))) (pe_ca CT (hr.mono (by decide)) (by rfl) (pa_cons (pv 1) (pa_cons pe_int pa_nil))) (fun _ _ => rfl)) (pa_cons (pv 7) pa_nil))) pa_nil))))))
      (pss_cons (ps_for PassesOwn.never rfl (pi_range1 (by rfl) T.n_range (pa_cons (pe_ca CT (hr.mono (by decide)) (by rfl) (pa_cons (pv 1) (pa_cons pe_int pa_nil))) pa_nil)) (pg_name (i := 8) sc_law.nd rfl (.inl rfl))
        (pss_cons (ps_par (i := 9) (j := 10) rfl sc_law.nd rfl rfl (by decide) rfl rfl (pa_cons (pe_ca CT (hr.mono (by decide)) (by rfl) (pa_cons (pv 1) (pa_cons (pv 4) pa_nil))) (pa_cons (pe_ca CT (hr.mono (by decide)) (by rfl) (pa_cons (pv 1) (pa_cons pe_int pa_nil))) pa_nil)) (by rfl))
        (pss_cons (ps_set (i := 11) sc_law.nd rfl (.inl rfl) (pe_and (pe_callB call_isi (by rfl) T.n_isinstance (by decide +kernel) (pa_cons (pe_ix ix_list (pv 5) (pv 9) (fun _ _ => rfl)) (pa_cons (pe_bltn (v := .ty "list") (by rfl) T.n_list (by decide +kernel) rfl) pa_nil))) (pe_one (pe_cmpR op_eq (pe_callB call_len_seq (by rfl) T.n_len (by decide +kernel) (pa_cons (pe_ix ix_list (pv 5) (pv 9) (fun _ _ => rfl)) pa_nil)) pe_int (nomark _)))))
        (pss_cons (ps_if (PW.pt (pw_and (pt_cmpR op_lt (pv 10) pe_int (nomark _)) (pw_and (pt_val (pv 11)) (pw_and (pt_val (pe_callB call_isi (by rfl) T.n_isinstance (by decide +kernel) (pa_cons (pe_ix ix_list (pe_ix ix_list (pv 5) (pv 9) (fun _ _ => rfl)) pe_int (fun _ _ => rfl)) (pa_cons (pe_bltn (v := .ty "list") (by rfl) T.n_list (by decide +kernel) rfl) pa_nil)))) (pw_and1 (pt_cmpR (op_neE hr) (pe_ix ix_list (pe_ix ix_list (pv 5) (pv 9) (fun _ _ => rfl)) pe_int (fun _ _ => rfl)) (pe_lst pa_nil) (nomark _)))))))
          (pss_cons (ps_set (i := 7) sc_law.nd rfl (.inl rfl) (pe_ix ix_list (pe_ix ix_list (pv 5) (pv 9) (fun _ _ => rfl)) pe_int (fun _ _ => rfl)))
          (pss_cons (ps_set (i := 12) sc_law.nd rfl (.inl rfl) (pe_ca CT (hr.mono (by decide)) (by rfl) (pa_cons (pv 1) (pa_cons (pe_callB call_len_seq (by rfl) T.n_len (by decide +kernel) (pa_cons (pv 7) pa_nil)) pa_nil))))
          (pss_one (ps_if (PW.pt (pw_and (pt_val (pe_callB call_isi (by rfl) T.n_isinstance (by decide +kernel) (pa_cons (pe_ix ix_list (pv 7) (pv 12) (fun _ _ => rfl)) (pa_cons (pe_bltn (v := .ty "tuple") (by rfl) T.n_tuple (by decide +kernel) rfl) pa_nil)))) (pw_and1 (pt_cmpR op_gt (pe_callB call_len_seq (by rfl) T.n_len (by decide +kernel) (pa_cons (pe_ix ix_list (pv 7) (pv 12) (fun _ _ => rfl)) pa_nil)) pe_int (nomark _)))))
            (pss_one (ps_asg (pe_ca CBe (hr.mono (by decide)) (by rfl) (pa_cons (pv 1) (pa_cons (pe_ix ix_list (pv 7) (pv 12) (fun _ _ => rfl)) (pa_cons (pe_ix ix_list (pv 3) pe_int (fun _ _ => rfl)) pa_nil)))) (pg_sub (pv 7) (pv 12) set_list)))
            pss_nil))))
          pss_nil)
        (pss_cons (ps_if (PW.pt (pw_and (pt_cmpR op_eq (pv 10) pe_int (nomark _)) (pw_and1 (pt_val (pv 11)))))
          (pss_cons (ps_asg (pe_ca CO (hr.mono (by decide)) (by rfl) (pa_cons (pv 1) (pa_cons (pe_ix ix_list (pv 3) pe_int (fun _ _ => rfl)) pa_nil))) (pg_sub (pe_ix ix_list (pv 5) (pv 9) (fun _ _ => rfl)) (pe_ca CT (hr.mono (by decide)) (by rfl) (pa_cons (pv 1) (pa_cons pe_int pa_nil))) set_list))
          (pss_one (ps_if (pt_cmpR op_eq (pe_ca CT (hr.mono (by decide)) (by rfl) (pa_cons (pv 1) (pa_cons pe_int pa_nil))) pe_int (nomark _))
            (pss_one (ps_asg (pe_ix ix_list (pe_lst (pa_cons pe_str (pa_cons pe_str (pa_cons pe_str (pa_cons pe_str (pa_cons pe_str (pa_cons pe_str (pa_cons (pe_tup (pa_cons pe_str pa_nil)) pa_nil)))))))) (pe_ca CT (hr.mono (by decide)) (by rfl) (pa_cons (pv 1) (pa_cons pe_int pa_nil))) (fun _ _ => rfl)) (pg_sub (pe_ix ix_list (pv 5) (pv 9) (fun _ _ => rfl)) pe_int set_list)))
            pss_nil)))
          pss_nil)
        (pss_cons (ps_if (PW.pt (pw_and (pt_cmpR op_eq (pv 10) pe_int (nomark _)) (pw_and1 (pt_val (pv 11)))))
          (pss_one (ps_asg (pe_ix ix_list (pe_lst (pa_cons (pe_op op_cat (pe_ix ix_list (pv 5) (pv 9) (fun _ _ => rfl)) (pe_lst (pa_cons (pe_ca CO (hr.mono (by decide)) (by rfl) (pa_cons (pv 1) (pa_cons (pe_ix ix_list (pv 3) pe_int (fun _ _ => rfl)) pa_nil))) pa_nil))) (pa_cons (pe_op op_cat (pe_ix ix_list (pv 5) (pv 9) (fun _ _ => rfl)) (pe_lst (pa_cons (pe_lst pa_nil) pa_nil))) (pa_cons (pe_slice sl_list (pe_ix ix_list (pv 5) (pv 9) (fun _ _ => rfl)) po_none (po_some pe_int)) pa_nil)))) (pe_ca CT (hr.mono (by decide)) (by rfl) (pa_cons (pv 1) (pa_cons pe_int pa_nil))) (fun _ _ => rfl)) (pg_sub (pv 5) (pv 9) set_list)))
          pss_nil)
        (pss_one (ps_if (pt_cmpR op_eq (pv 10) pe_int (nomark _))
          (pss_one (ps_asg (pe_ca CO (hr.mono (by decide)) (by rfl) (pa_cons (pv 1) (pa_cons (pe_ix ix_list (pv 3) pe_int (fun _ _ => rfl)) pa_nil))) (pg_sub (pv 5) (pv 9) set_list)))
          pss_nil))))))))
      (pss_cons (ps_if (pt_cmpR op_eq (pe_ca CT (hr.mono (by decide)) (by rfl) (pa_cons (pv 1) (pa_cons pe_int pa_nil))) pe_int (nomark _))
        (pss_one (ps_set (i := 5) sc_law.nd rfl (.inl rfl) (pe_ca CO (hr.mono (by decide)) (by rfl) (pa_cons (pv 1) (pa_cons (pe_ix ix_list (pv 3) pe_int (fun _ _ => rfl)) pa_nil)))))
        pss_nil)
      (pss_cons (ps_if (PW.pt (pw_and (pt_cmpR op_eq (pe_ca CT (hr.mono (by decide)) (by rfl) (pa_cons (pv 1) (pa_cons pe_int pa_nil))) pe_int (nomark _)) (pw_and1 (pt_val (pe_callB call_isi (by rfl) T.n_isinstance (by decide +kernel) (pa_cons (pv 5) (pa_cons (pe_bltn (v := .ty "list") (by rfl) T.n_list (by decide +kernel) rfl) pa_nil)))))))
        (pss_one (ps_set (i := 5) sc_law.nd rfl (.inl rfl) (pe_callTy call_tuple_of (by rfl) T.n_tuple (by decide +kernel) (pa_cons (pv 5) pa_nil))))
        pss_nil)
      (pss_cons (ps_par (i := 13) (j := 14) rfl sc_law.nd rfl rfl (by decide) rfl rfl (pa_cons (pe_ca CDu (hr.mono (by decide)) (by rfl) (pa_cons (pv 5) pa_nil)) (pa_cons (pe_callB (call_reprD hG hr) (by rfl) T.n_repr (by decide +kernel) (pa_cons (pv 5) pa_nil)) pa_nil)) (by rfl))
      (pss_one (ps_for PassesOwn.never rfl (pi_range1 (by rfl) T.n_range (pa_cons pe_int pa_nil)) (pg_name (i := 15) sc_law.nd rfl (.inl rfl))
        (pss_one (ps_if (PW.pt (pw_or (pt_cmpR (op_neQ hr) (pe_ca CTo (hr.mono (by decide)) (by rfl) (pa_cons (pv 5) pa_nil)) (pv 13) (nomark _)) (pw_or1 (pt_cmpR op_ne (pe_callB (call_reprD hG hr) (by rfl) T.n_repr (by decide +kernel) (pa_cons (pv 5) pa_nil)) (pv 14) (nomark _)))))
          (pss_one (ps_ret pe_bl))
          pss_nil))))))))))))
    (pss_cons (ps_set (i := 16) sc_law.nd rfl (.inl rfl) (pe_makeN mkK FK (hr.mono (by decide)) (by rfl) L.gC bK .nil (fun σ => passAtN takes0N σ) (pa_cons (pe_lst (pa_cons (pe_tup (pa_cons pe_str (pa_cons (pe_tup pa_nil) pa_nil))) pa_nil)) pa_nil)))
    (pss_one (ps_ret (pe_cmpR (op_eqQ hr) (pe_lst (pa_cons (pe_ca CTo (hr.mono (by decide)) (by rfl) (pa_cons (pv 16) pa_nil)) (pa_cons (pe_ca CTo (hr.mono (by decide)) (by rfl) (pa_cons (pe_lst (pa_cons (pv 16) pa_nil)) pa_nil)) (pa_cons (pe_ca CTo (hr.mono (by decide)) (by rfl) (pa_cons (pe_lst (pa_cons (pe_tup (pa_cons pe_str (pa_cons (pv 16) pa_nil))) pa_nil)) pa_nil)) pa_nil)))) (pe_op op_rep (pe_lst (pa_cons (pe_tup (pa_cons pe_str (pa_cons pe_int pa_nil))) pa_nil)) pe_int) (nomark _))))))), ?_⟩
    refine ⟨_, rfl, a, zs0, rfl, hs, by omega, fun p H1 e1 hb => ?_⟩
    have S1 := sysUp hS e1
    refine ⟨_, rfl, by decide, by decide, for_range (n := 8) (fun i σ H' => ∃ s2 s3 s4 s5 s6 s7 s8 s9 s10 s11 s12 s13 s14 s15, σ = [some (.ref a), some (.ref p), s2, s3, s4, s5, s6, s7, s8, s9, s10, s11, s12, s13, s14, s15, none] ∧ Ext H1 H')
      ⟨none, none, none, none, none, none, none, none, none, none, none, none, none, none, rfl, Ext.refl _⟩ ?_ ?_⟩
    · rintro i σ H' hi ⟨s2, s3, s4, s5, s6, s7, s8, s9, s10, s11, s12, s13, s14, s15, rfl, e⟩
      have hbE := hb.up e
      refine ⟨_, rfl, p, 2, rfl, hbE, by decide, by decide, fun an ys H2 e2 nan han nys => ⟨_, rfl, p, 4, rfl, hbE.up e2, by decide, by decide, fun r r0 r1 => ⟨_, _, rfl, rfl, by show 2 ≤ sizeLine; decide, fun pt hpt => ?_⟩⟩⟩
      have xt := Ext.new (o := .tup [.ref an, .int (1 + r)]) hpt
      refine ⟨pt, _, rfl, SqT.of upd_same, rfl, _, _, rfl, _, _, rfl, rfl, ?_⟩
      have hb3 := (hbE.up e2).up xt
      have han3 := xt _ _ han
      have e13 := (e.trans e2).trans xt
      generalize upd H2 pt (.tup [.ref an, .int (1 + r)]) = H3 at xt hb3 han3 e13 ⊢
      obtain ⟨pn, rfl⟩ := Int.eq_ofNat_of_zero_le r0
      have en : (1 + (pn : Int)) = ((1 + pn : Nat) : Int) := by omega
      dsimp only
      rw [en]
      have hn1 : 1 ≤ 1 + pn := by omega
      have hn4 : 1 + pn ≤ 4 := by omega
      generalize 1 + pn = n at hn1 hn4 ⊢
      have ly : ys.length = 2 := by rw [nys.len]; rfl
      have y0 : isNameS (ys[0]'(by omega)) = true := nys.ok _ (List.getElem_mem _)
      have hy0 : atI (ys.map V.str) 0 = some (.str (ys[0]'(by omega))) := atI_nat (j := 0) (ix_get 0 (by omega))
      generalize ys[0]'(by omega) = nm at y0 hy0
      refine ⟨by show 0 ≤ sizeLine; decide, fun O nO => ?_⟩
      have e4 := Ext.new (o := .lst []) nO
      have a4 : (upd H3 O (.lst [])) O = some (.lst []) := upd_same
      generalize upd H3 O (.lst []) = H4 at e4 a4 ⊢
      have R4 : Reg (fun b => if b = O then 3 else 0) 3 0 H3 H4 O := reg_start e4 nO a4
      dsimp only [gName]
      refine cutN (fun σ' H' => ∃ s6 s7 s12 lev, σ' = [some (.ref a), some (.ref p), some (.int (0 + (i : Int))), some (.ref an), some (.int (n : Int)), some (.ref O), s6, s7, s8, s9, s10, s11, s12, s13, s14, s15, none] ∧ Reg lev 3 n H3 H' O) (fun N hN => ?_) ?_
      · refine ⟨_, rfl, _, rfl, by omega, by omega, for_range (n := n) (fun j σ H' => ∃ s6 s7 s12 lev, σ = [some (.ref a), some (.ref p), some (.int (0 + (i : Int))), some (.ref an), some (.int (n : Int)), some (.ref O), s6, s7, s8, s9, s10, s11, s12, s13, s14, s15, none] ∧ Reg lev 3 j H3 H' O)
          ⟨_, _, _, _, rfl, R4⟩ ?_ ?_⟩
        · rintro j σ H5 hj ⟨s6', s7', s12', lev, rfl, R5⟩
          have hb5 := hb3.up R5.ext
          have han5 := R5.ext _ _ han3
          refine ⟨_, rfl, p, 4, rfl, hb5, by decide, by decide, fun r r0 r1 => ⟨_, rfl, by omega, by omega, fun D hD => ?_⟩⟩
          refine lc1_acc walk_range (fun k zs Hd => ∃ as : List Arm, DqAll Hd zs (as.map armD) ∧ (∀ a ∈ as, GArm a ∧ a.2 ≤ 6) ∧ zs.length = k ∧ k ≤ 4 ∧ ∀ y ∈ zs, ∃ t xs, y = .ref t ∧ H5 t = none ∧ Hd t = some (.tup xs) ∧ xs.length ≤ 3)
            (fun k zs G G' e ⟨as, h1, h2, h3, h4, h5⟩ => ⟨as, DqAll.up e h1, h2, h3, h4, fun y hy => by
              obtain ⟨t, xs, z1, z2, z3, z4⟩ := h5 y hy
              exact ⟨t, xs, z1, z2, e _ _ z3, z4⟩⟩) ⟨[], .nil, (fun a h => nomatch h), rfl, by decide, fun y h => nomatch h⟩ hD (fun k zs _ ⟨_, _, _, h3, h4, _⟩ => by rw [h3]; exact Nat.lt_of_le_of_lt h4 (by decide)) (fun _ _ => trivial) ?_ ?_
          · rintro k x Hi H6 zs hk e6 hy ⟨rfl, rfl⟩ ⟨as, h1, h2, h3, h4, h5⟩ QY QN kY kN
            refine ⟨rfl, tyes ?_⟩
            refine ⟨_, rfl, _, rfl, _, rfl, p, an, n, ys, rfl, hb5.up e6, e6 _ _ han5, by omega, by omega, nys.ok, hn1, hn4, fun t ar H7 e7 nt dt ga g6 => ?_⟩
            have tD : t ≠ D := fun z => by rw [z, hy] at nt; cases nt
            obtain ⟨ws, hws, back⟩ := arm_at dt
            have lw : ws.length ≤ 3 := by
              obtain ⟨b, vs, ds, eb, ed, hv, hd⟩ := dq_tup dt (by obtain ⟨o, g⟩ := ar; cases o <;> rfl)
              cases eb
              rw [hws] at hv
              cases hv
              rw [hd.len]
              obtain ⟨o, g⟩ := ar
              cases o with
              | none => cases ed; simp
              | some pr => cases ed; simp
            refine kY _ _ e7 ⟨as ++ [ar], ?_, fun b hb' => ?_, by rw [List.length_append, h3]; rfl, by omega, fun y hy' => ?_⟩
            · rw [List.map_append]
              exact dq_app (DqAll.up (ext_del e7) h1) (.cons (back _ (by rw [del_ne tD]; exact hws)) .nil)
            · rcases List.mem_append.mp hb' with h | h
              · exact h2 b h
              · rw [List.mem_singleton.mp h]
                exact ⟨ga, g6⟩
            · rcases List.mem_append.mp hy' with h | h
              · obtain ⟨t', xs', z1, z2, z3, z4⟩ := h5 y h
                exact ⟨t', xs', z1, z2, ext_del e7 _ _ z3, z4⟩
              · exact ⟨t, ws, List.mem_singleton.mp h, e6.free nt, by rw [del_ne tD]; exact hws, lw⟩
          · rintro H6 zs e6 hD6 ⟨as, h1, h2, h3, h4, h5⟩
            obtain ⟨xs3, hO, lO, hO3⟩ := (R5.up e6).r3
            refine ⟨_, rfl, .inl ⟨rfl, _, SqL.of hO⟩, by show 2 ≤ sizeLine; decide, fun ml nml => ?_⟩
            have e7 := Ext.new (H := H6) (o := .lst [.str "first", .str "any"]) nml
            have a7 : (upd H6 ml (.lst [.str "first", .str "any"])) ml = some (.lst [.str "first", .str "any"]) := upd_same
            generalize upd H6 ml _ = H7 at *
            refine ⟨_, rfl, p, 2, rfl, hb5.up (e6.trans e7), by decide, by decide, fun r2 r20 r21 => ?_⟩
            have allm : ∀ v ∈ ([.str "first", .str "any"] : List V), ∀ R : Hp, Od R v := fun v hv R => by
              simp only [List.mem_cons, List.not_mem_nil, or_false] at hv
              rcases hv with rfl | rfl <;> exact od_flat ((tk_str _ (by decide +kernel) (by decide +kernel)).up (Ext.refl _) (by omega)) (fun a e => nomatch e)
            obtain ⟨mv, hmv, odm⟩ := pick allm r20 r21
            refine ⟨ml, _, _, mv, rfl, rfl, SqL.of a7, hmv, _, rfl, by show 2 ≤ sizeLine; decide, fun rw' nrw => ?_⟩
            have e8 := Ext.new (H := H7) (o := .lst [mv, .ref D]) nrw
            have a8 : (upd H7 rw' (.lst [mv, .ref D])) rw' = some (.lst [mv, .ref D]) := upd_same
            generalize upd H7 rw' _ = H8 at *
            refine ⟨O, xs3, _, rfl, rfl, (e7.trans e8) _ _ hO, by rw [lO]; exact Nat.lt_of_lt_of_le (show j < 60 by omega) (by decide), ?_⟩
            -- the arms, the row
            have nD5 : lev D = 0 := R5.fresh hD
            have RA : Reg (levA lev D 1) 3 j H3 H7 O := (R5.add (k := 1) e6 hD hD6 (.inl rfl) (fun _ => ⟨by omega, fun y hy => ?_⟩) (fun z => by omega)).up e7
            · have nDr : D ≠ rw' := fun z => by rw [← z, e7 _ _ hD6] at nrw; cases nrw
              have RB : Reg (levA (levA lev D 1) rw' 2) 3 j H3 H8 O := RA.add (k := 2) e8 nrw a8 (.inr rfl) (fun z => by omega) (fun _ => ⟨by simp, fun y hy => ?_⟩)
              · obtain ⟨xs4, hO4, lO4, hO4r⟩ := RB.r3
                rw [(e7.trans e8) _ _ hO] at hO4
                cases hO4
                refine ⟨_, _, _, _, rfl, RB.set3 (by rw [List.length_append, lO4]; rfl) fun y hy => ?_⟩
                rcases List.mem_append.mp hy with h | h
                · exact hO4r y h
                · exact .inr ⟨rw', List.mem_singleton.mp h, levA_at⟩
              · simp only [List.mem_cons, List.not_mem_nil, or_false] at hy
                rcases hy with rfl | rfl
                · exact .inl (odm _)
                · exact .inr ⟨D, rfl, by rw [levA_ne nDr, levA_at]⟩
            · obtain ⟨t, ws, rfl, t0, ht, lw⟩ := h5 y hy
              obtain ⟨d, hd, dt⟩ := dq_mem h1 hy
              obtain ⟨ar, har, rfl⟩ := List.mem_map.mp hd
              obtain ⟨ws', hws, back⟩ := arm_at dt
              have tD : t ≠ D := fun z => by rw [z, hD6] at ht; cases ht
              have rt : rm (levA lev D 1) H6 t = H6 t := rm_at (by rw [levA_ne tD]; exact R5.fresh t0)
              refine ⟨⟨_, back _ (by rw [rt]; exact hws), (kd_arm (h2 ar har).1 (h2 ar har).2).up (by omega)⟩, fun b vs eb hv => ?_⟩
              cases eb
              rw [rt, ht] at hv
              cases hv
              exact lw
        · rintro σ H5 ⟨s6', s7', s12', lev, rfl, R5⟩
          exact hN _ _ ⟨_, _, _, _, rfl, R5⟩
      rintro σ' H5 ⟨s6', s7', s12', lev5, rfl, R5⟩
      refine cutN (fun σ' H' => ∃ s7 s8 s9 s10 s11 s12 lev m, σ' = [some (.ref a), some (.ref p), some (.int (0 + (i : Int))), some (.ref an), some (.int (n : Int)), some (.ref O), s6', s7, s8, s9, s10, s11, s12, s13, s14, s15, none] ∧ Reg lev m n H3 H' O) (fun N hN => ?_) ?_
      · refine ⟨_, rfl, p, 3, rfl, hb3.up R5.ext, by decide, by decide, fun r3 r30 r31 => ?_⟩
        obtain ⟨rk, rfl⟩ : ∃ k : Nat, r3 = (k : Int) := ⟨r3.toNat, by omega⟩
        refine ⟨_, rfl, by omega, by omega, for_range (n := rk) (fun j σ H' => ∃ s7 s8 s9 s10 s11 s12 lev, σ = [some (.ref a), some (.ref p), some (.int (0 + (i : Int))), some (.ref an), some (.int (n : Int)), some (.ref O), s6', s7, s8, s9, s10, s11, s12, s13, s14, s15, none] ∧ Reg lev (3 + j) n H3 H' O)
          ⟨_, _, _, _, _, _, _, rfl, R5⟩ ?_ ?_⟩
        · rintro j σ H6 hj ⟨s7', s8', s9', s10', s11', s12', lev, rfl, R6⟩
          have hj1 : j ≤ 1 := by omega
          have hb6 := hb3.up R6.ext
          have han6 := R6.ext _ _ han3
          refine ⟨_, rfl, _, rfl, p, _, rfl, hb6, by omega, by omega, fun at_ at0 at1 => ⟨_, rfl, p, 6, rfl, hb6, by decide, by decide, fun st st0 st1 => ⟨_, _, rfl, ?_⟩⟩⟩
          obtain ⟨ak, rfl⟩ : ∃ k : Nat, at_ = (k : Int) := ⟨at_.toNat, by omega⟩
          have hak : ak < n := by omega
          let Wh : Bool → Lev → Hp → Prop := fun wh lev H' => wh = true → ∃ (xs : List V) (rr : Addr) (x0 x1 : V), H' O = some (.lst xs) ∧ xs[ak]? = some (.ref rr) ∧ lev rr = 2 ∧ H' rr = some (.lst [x0, x1])
          let S : Option V → Bool → Option V → L2.St := fun s7 wh s12 => [some (.ref a), some (.ref p), some (.int (0 + (i : Int))), some (.ref an), some (.int (n : Int)), some (.ref O), s6', s7, some (.int (0 + (j : Int))), some (.int (ak : Int)), some (.int st), some (.bl wh), s12, s13, s14, s15, none]
          dsimp only [gName]
          refine cutN (fun σ' H' => ∃ wh, σ' = S s7' wh s12' ∧ H' = H6 ∧ Wh wh lev H6) (fun N hN => ?_) ?_
          · obtain ⟨xs, hO, lO, hR⟩ := R6.r3
            have hx := List.getElem?_eq_getElem (l := xs) (i := ak) (by omega)
            have hRx := hR _ (List.mem_of_getElem? hx)
            generalize xs[ak] = x at hx hRx
            rcases hRx with od | ⟨rr, rfl, hrr⟩
            · obtain ⟨⟨d, hd, kd⟩, sh⟩ := od
              have hd6 := hd.up (rm_sub (lev := lev) (H := H6))
              refine ⟨_, rfl, _, rfl, O, xs, _, x, rfl, rfl, SqL.of hO, atI_nat hx, _, _, _, _, _, rfl, .ty "list", ty_of hd6, ki_list d, _, rfl, ?_⟩
              refine ite2 (fun g => ?_) (fun g => hN _ _ ⟨false, rfl, rfl, fun z => Bool.noConfusion z⟩)
              obtain ⟨b, ws, rfl, hw⟩ := kl_inv hd g
              refine ⟨_, rfl, _, rfl, O, xs, _, _, rfl, rfl, SqL.of hO, atI_nat hx, b, ws, rfl, .inl (SqL.of (rm_sub _ _ hw)), rfl, hN _ _ ⟨_, rfl, rfl, fun z => ?_⟩⟩
              have l2 := of_decide_eq_true z
              injection l2 with l2
              rcases (sh b ws rfl).1 hw with rfl | rfl
              · have : (0 : Int) = 2 := l2
                omega
              · have : (1 : Int) = 2 := l2
                omega
            · obtain ⟨ws, hrw, lw, _⟩ := R6.r2 rr hrr
              refine ⟨_, rfl, _, rfl, O, xs, _, _, rfl, rfl, SqL.of hO, atI_nat hx, _, _, _, _, _, rfl, .ty "list", .base (.lst hrw), ki_ll, _, rfl, ?_⟩
              refine iteT ?_
              refine ⟨_, rfl, _, rfl, O, xs, _, _, rfl, rfl, SqL.of hO, atI_nat hx, rr, ws, rfl, .inl (SqL.of hrw), rfl, hN _ _ ⟨_, rfl, rfl, fun z => ?_⟩⟩
              have l2 := of_decide_eq_true z
              injection l2 with l2
              match ws, hrw, l2 with
              | [y0, y1], hrw, _ => exact ⟨xs, rr, y0, y1, hO, hx, hrr, hrw⟩
              | [], _, l2 => exact absurd l2 (by decide)
              | [_], _, l2 => exact absurd l2 (by simp)
              | _ :: _ :: _ :: _, _, l2 =>
                simp only [List.length_cons] at l2
                omega
          rintro σ' H7 ⟨wh, rfl, rfl, hwh⟩
          -- an arm is bent
          refine cutN (fun σ' H' => ∃ s7 s12, σ' = S s7 wh s12 ∧ Reg lev (3 + (j + 1)) n H3 H' O ∧ Wh wh lev H') (fun N hN => ?_) ?_
          · have stay : ∀ {H8 : Hp}, Ext H7 H8 → Wh wh lev H8 := fun {H8} e8 z => by
              obtain ⟨xs, rr, x0, x1, g1, g2, g3, g4⟩ := hwh z
              exact ⟨xs, rr, x0, x1, e8 _ _ g1, g2, g3, e8 _ _ g4⟩
            have goOn : ∀ {H8 : Hp} {s12 : Option V} {s7 : Option V}, Ext H7 H8 → N (S s7 wh s12) H8 := fun {H8 s12 s7} e8 => hN _ _ ⟨s7, s12, rfl, (R6.up e8).more (by omega), stay e8⟩
            refine ⟨_, rfl, _, _, rfl, rfl, _, rfl, ?_⟩
            refine ite2 (fun _ => ?_) (fun _ => goOn (Ext.refl _))
            refine ⟨_, rfl, wh, rfl, ?_⟩
            refine ite2 (fun gw => ?_) (fun _ => goOn (Ext.refl _))
            obtain ⟨xs, rr, x0, x1, hO, hk, hrr, hrw⟩ := hwh gw
            have hp1 : Pt lev H7 x1 := by
              obtain ⟨ws, z1, _, z3⟩ := R6.r2 rr hrr
              rw [hrw] at z1
              cases z1
              exact z3 x1 (by simp)
            rcases hp1 with od | ⟨b, rfl, hb1⟩
            · obtain ⟨⟨d, hd, kd⟩, sh⟩ := od
              have hd6 := hd.up (rm_sub (lev := lev) (H := H7))
              refine ⟨_, rfl, _, rfl, O, xs, _, _, rfl, rfl, SqL.of hO, atI_nat hk, rr, _, 1, x1, rfl, rfl, SqL.of hrw, by rfl, _, _, _, _, _, rfl, .ty "list", ty_of hd6, ki_list d, _, rfl, ?_⟩
              refine ite2 (fun g => ?_) (fun _ => goOn (Ext.refl _))
              obtain ⟨b, ws, rfl, hw⟩ := kl_inv hd g
              have hw7 := rm_sub _ _ hw
              refine ⟨_, rfl, _, rfl, O, xs, _, _, rfl, rfl, SqL.of hO, atI_nat hk, rr, _, 1, _, rfl, rfl, SqL.of hrw, by rfl, by show 0 ≤ sizeLine; decide, fun e0 ne0 => ?_⟩
              have x8 := Ext.new (H := H7) (o := .lst []) ne0
              have a8 : (upd H7 e0 (.lst [])) e0 = some (.lst []) := upd_same
              generalize upd H7 e0 (.lst []) = H8 at x8 a8 ⊢
              refine ⟨b, e0, ws, rfl, rfl, SqL.of (x8 _ _ hw7), SqL.of a8, _, rfl, ?_⟩
              refine ite2 (fun g1 => ?_) (fun _ => goOn x8)
              rcases (sh b ws rfl).1 hw with rfl | rfl
              · exact absurd g1 (by decide)
              refine ⟨_, rfl, _, rfl, O, xs, _, _, rfl, rfl, SqL.of (x8 _ _ hO), atI_nat hk, rr, _, 1, _, rfl, rfl, SqL.of (x8 _ _ hrw), by rfl, ?_⟩
              refine ⟨_, rfl, _, rfl, b, _, rfl, .inl (SqL.of (x8 _ _ hw7)), p, _, rfl, hb6.up x8, by decide, by decide, fun r7 r70 r71 => ?_⟩
              have : r7 = 0 := by
                have : r7 < 1 := r71
                omega
              subst this
              refine ⟨_, rfl, _, rfl, b, _, 0, _, rfl, rfl, SqL.of (x8 _ _ hw7), by rfl, _, _, _, _, _, rfl, .ty "tuple", .base (.int 1), ki_tuple (.int 1), _, rfl, ?_⟩
              exact iteF (goOn x8)
            · obtain ⟨ws, hw7, l5, hB⟩ := R6.r1 b hb1
              refine ⟨_, rfl, _, rfl, O, xs, _, _, rfl, rfl, SqL.of hO, atI_nat hk, rr, _, 1, _, rfl, rfl, SqL.of hrw, by rfl, _, _, _, _, _, rfl, .ty "list", .base (.lst hw7), ki_ll, _, rfl, ?_⟩
              refine iteT ?_
              refine ⟨_, rfl, _, rfl, O, xs, _, _, rfl, rfl, SqL.of hO, atI_nat hk, rr, _, 1, _, rfl, rfl, SqL.of hrw, by rfl, by show 0 ≤ sizeLine; decide, fun e0 ne0 => ?_⟩
              have x8 := Ext.new (H := H7) (o := .lst []) ne0
              have a8 : (upd H7 e0 (.lst [])) e0 = some (.lst []) := upd_same
              generalize upd H7 e0 (.lst []) = H8 at x8 a8 ⊢
              have hw8 := x8 _ _ hw7
              have hb8 := hb6.up x8
              have R8 := R6.up x8
              refine ⟨b, e0, ws, rfl, rfl, SqL.of hw8, SqL.of a8, _, rfl, ?_⟩
              refine ite2 (fun g1 => ?_) (fun _ => goOn x8)
              have lw0 : 0 < ws.length := by
                cases ws with
                | nil => exact absurd g1 (by decide)
                | cons y t => simp
              refine ⟨_, rfl, _, rfl, O, xs, _, _, rfl, rfl, SqL.of (x8 _ _ hO), atI_nat hk, rr, _, 1, _, rfl, rfl, SqL.of (x8 _ _ hrw), by rfl, ?_⟩
              refine ⟨_, rfl, _, rfl, b, _, rfl, .inl (SqL.of hw8), p, _, rfl, hb8, by omega, by omega, fun r7 r70 r71 => ?_⟩
              obtain ⟨kk, rfl⟩ : ∃ k : Nat, r7 = (k : Int) := ⟨r7.toNat, by omega⟩
              have hkk : kk < ws.length := by omega
              have hy := List.getElem?_eq_getElem hkk
              have hBy := (hB _ (List.mem_of_getElem? hy)).up (rm_ext (lev := lev) x8) (Nat.le_refl _)
              generalize ws[kk] = y at hy hBy
              obtain ⟨⟨d, hd, kd⟩, lenB⟩ := hBy
              have hd8 := hd.up (rm_sub (lev := lev) (H := H8))
              refine ⟨_, rfl, _, rfl, b, _, _, y, rfl, rfl, SqL.of hw8, atI_nat hy, _, _, _, _, _, rfl, .ty "tuple", ty_of hd8, ki_tuple d, _, rfl, ?_⟩
              refine ite2 (fun gt => ?_) (fun _ => goOn x8)
              obtain ⟨t, vs, ds, rfl, rfl, ht, hvs⟩ := dq_tup hd gt
              have ht8 := rm_sub _ _ ht
              have lvs := lenB t vs rfl ht
              refine ⟨_, rfl, _, rfl, b, _, _, _, rfl, rfl, SqL.of hw8, atI_nat hy, t, vs, rfl, .inr (SqT.of ht8), _, _, rfl, rfl, _, rfl, ?_⟩
              refine ite2 (fun gl => ?_) (fun _ => goOn x8)
              have gl2 : 2 ≤ vs.length := by
                have := of_decide_eq_true gl
                omega
              refine ⟨_, rfl, _, rfl, _, rfl, b, _, _, _, rfl, rfl, SqL.of hw8, atI_nat hy, _, rfl, an, _, 0, .str nm, rfl, rfl, SqL.of (x8 _ _ han6), hy0, p, t, nm, vs, 3 + j, rm lev H8, rfl, hb8, ht8, gl2, lvs, by omega, rm_sub, fun z hz => ?_, y0, fun v H9 e9 hv => ?_⟩
              · obtain ⟨dz, hdz, kz⟩ := dq_mem hvs hz
                exact ⟨dz, kz, (kd.2 ds rfl).2 dz hdz⟩
              have R9 := (R8.up e9).more (show 3 + j ≤ 3 + (j + 1) by omega)
              have hv9 := hv (rm lev H9) (rm_ext e9) R8.nw rm_sub
              refine ⟨_, rfl, _, rfl, b, ws, _, kk, rfl, rfl, e9 _ _ hw8, ixi_nat hkk, hN _ _ ⟨_, _, rfl, R9.set1 hb1 (by rw [List.length_set]; exact l5) fun z hz => ?_, fun z => ?_⟩⟩
              · rcases List.mem_or_eq_of_mem_set hz with h | rfl
                · exact (hB z h).up (rm_ext (x8.trans e9)) (by omega)
                · exact hv9
              · obtain ⟨xs', rr', y0', y1', g1, g2, g3, g4⟩ := stay (x8.trans e9) z
                exact ⟨xs', rr', y0', y1', by rw [upd_ne (fun q => by have := R6.top; rw [q, hb1] at this; omega)]; exact g1, g2, g3, by rw [upd_ne (fun q => by rw [q, hb1] at g3; omega)]; exact g4⟩
          rintro σ' H8 ⟨s7'', s12'', rfl, R8, wh8⟩
          -- a row is put otherwise
          refine cutN (fun σ' H' => σ' = S s7'' wh s12'' ∧ Reg lev (3 + (j + 1)) n H3 H' O ∧ (st = 5 → Wh wh lev H')) (fun N hN => ?_) ?_
          · have hb8 := hb3.up R8.ext
            have han8 := R8.ext _ _ han3
            refine ⟨_, rfl, rfl, _, rfl, ?_⟩
            refine ite2 (fun g3 => ?_) (fun _ => hN _ _ ⟨rfl, R8, fun _ => wh8⟩)
            refine ⟨_, rfl, wh, rfl, ?_⟩
            refine ite2 (fun gw => ?_) (fun _ => hN _ _ ⟨rfl, R8, fun _ => wh8⟩)
            have no5 : ∀ H', st = 5 → Wh wh lev H' := fun H' z => by
              have := of_decide_eq_true g3
              injection this with this
              omega
            obtain ⟨xs, rr, x0, x1, hO, hk, hrr, hrw⟩ := wh8 gw
            have px : Pt lev H8 x0 ∧ Pt lev H8 x1 := by
              obtain ⟨ws, z1, _, z3⟩ := R8.r2 rr hrr
              rw [hrw] at z1
              cases z1
              exact ⟨z3 _ (by simp), z3 _ (by simp)⟩
            have nrO : O ≠ rr := fun z => by have := R8.top; rw [z, hrr] at this; omega
            have r0' : lev rr ≠ 0 := by omega
            refine cutN (fun σ' H' => σ' = S s7'' wh s12'' ∧ Reg lev (3 + (j + 1)) n H3 H' O ∧ ∃ z0 z1, H' O = some (.lst xs) ∧ H' rr = some (.lst [z0, z1]) ∧ Pt lev H' z0 ∧ Pt lev H' z1) (fun M hM => ?_) ?_
            · refine ⟨_, rfl, _, rfl, an, _, 0, .str nm, rfl, rfl, SqL.of han8, hy0, p, nm, rfl, hb8, y0, fun v H9 e9 od => ⟨_, rfl, _, rfl, O, xs, _, .ref rr, rfl, rfl, SqL.of (e9 _ _ hO), atI_nat hk, _, rfl, p, 2, rfl, hb8.up e9, by decide, by decide, fun r7 r70 r71 => ?_⟩⟩
              have odr : Pt lev H9 v := .inl (od.up R8.nw)
              have hrw9 := e9 _ _ hrw
              have R9 := R8.up e9
              have p0 := px.1.up e9
              have p1 := px.2.up e9
              have : r7 = 0 ∨ r7 = 1 := by omega
              rcases this with rfl | rfl
              · refine ⟨rr, [x0, x1], _, 0, rfl, rfl, hrw9, by rfl, hM _ _ ⟨rfl, R9.set2 (ys := [v, x1]) hrr (by simp) (fun y hy => ?_), v, x1, by rw [upd_ne nrO]; exact e9 _ _ hO, upd_same, pt_set r0' odr, pt_set r0' p1⟩⟩
                simp only [List.mem_cons, List.not_mem_nil, or_false] at hy
                rcases hy with rfl | rfl
                · exact odr
                · exact p1
              · refine ⟨rr, [x0, x1], _, 1, rfl, rfl, hrw9, by rfl, hM _ _ ⟨rfl, R9.set2 (ys := [x0, v]) hrr (by simp) (fun y hy => ?_), x0, v, by rw [upd_ne nrO]; exact e9 _ _ hO, upd_same, pt_set r0' p0, pt_set r0' odr⟩⟩
                simp only [List.mem_cons, List.not_mem_nil, or_false] at hy
                rcases hy with rfl | rfl
                · exact p0
                · exact odr
            rintro σ' H9 ⟨rfl, R9, z0, z1, hO9, hrw9, pz0, pz1⟩
            have hb9 := hb3.up R9.ext
            refine ⟨_, rfl, p, 2, rfl, hb9, by decide, by decide, fun r7 r70 r71 => ⟨rfl, _, rfl, ?_⟩⟩
            refine ite2 (fun _ => ?_) (fun _ => hN _ _ ⟨rfl, R9, no5 _⟩)
            refine ⟨by show 1 ≤ sizeLine; decide, fun a6 n6 => ⟨by show 7 ≤ sizeLine; decide, fun vl nvl => ⟨_, rfl, p, 7, rfl, ?_⟩⟩⟩
            have y3 := Ext.new (H := H9) (o := .tup [.str "any"]) n6
            have k3 : (upd H9 a6 (.tup [.str "any"])) a6 = some (.tup [.str "any"]) := upd_same
            have l6 : lev a6 = 0 := R9.fresh n6
            generalize upd H9 a6 _ = Ha at *
            have k3r : rm lev Ha a6 = some (.tup [.str "any"]) := by rw [rm_at l6]; exact k3
            have all : ∀ v ∈ ([.str "First", .str "ANY", .str "firs", .str "any ", .str " any", .str "anyy", .ref a6] : List V), Pt lev Ha v := by
              intro v hv
              simp only [List.mem_cons, List.not_mem_nil, or_false] at hv
              have fl : ∀ x : Str, x.length ≤ 19 → (∀ c ∈ tl x, c < 128) → Pt lev Ha (.str x) := fun x h1 h2 => .inl (od_flat ((tk_str x h1 h2).up (Ext.refl _) (by omega)) (fun a e => nomatch e))
              rcases hv with rfl | rfl | rfl | rfl | rfl | rfl | rfl
              · exact fl _ (by decide +kernel) (by decide +kernel)
              · exact fl _ (by decide +kernel) (by decide +kernel)
              · exact fl _ (by decide +kernel) (by decide +kernel)
              · exact fl _ (by decide +kernel) (by decide +kernel)
              · exact fl _ (by decide +kernel) (by decide +kernel)
              · exact fl _ (by decide +kernel) (by decide +kernel)
              · refine .inl (od_at (tk_tuple k3r (fun y hy => by rw [List.mem_singleton.mp hy]; exact tk_str _ (by decide +kernel) (by decide +kernel)) (by decide)) k3r (fun xs => ⟨(fun e => nomatch e), (fun e => by cases e; decide)⟩))
            have y4 := Ext.new (H := Ha) (o := .lst [.str "First", .str "ANY", .str "firs", .str "any ", .str " any", .str "anyy", .ref a6]) nvl
            have k4 : (upd Ha vl (.lst [.str "First", .str "ANY", .str "firs", .str "any ", .str " any", .str "anyy", .ref a6])) vl = some (.lst [.str "First", .str "ANY", .str "firs", .str "any ", .str " any", .str "anyy", .ref a6]) := upd_same
            generalize upd Ha vl _ = Hb at *
            have f4 := y3.trans y4
            refine ⟨hb9.up f4, by decide, by decide, fun r r0 r1 => ?_⟩
            obtain ⟨v, hv, nv⟩ := pick all r0 r1
            refine ⟨vl, _, _, v, rfl, rfl, SqL.of k4, hv, _, rfl, _, rfl, O, xs, _, .ref rr, rfl, rfl, SqL.of (f4 _ _ hO9), atI_nat hk, rr, [z0, z1], _, 0, rfl, rfl, f4 _ _ hrw9, by rfl, hN _ _ ⟨rfl, (R9.up f4).set2 (ys := [v, z1]) hrr (by simp) (fun y hy => ?_), no5 _⟩⟩
            simp only [List.mem_cons, List.not_mem_nil, or_false] at hy
            rcases hy with rfl | rfl
            · exact nv.up y4
            · exact pz1.up f4
          rintro σ' H9 ⟨rfl, R9, wh9⟩
          refine cutN (fun σ' H' => ∃ lev, σ' = S s7'' wh s12'' ∧ Reg lev (3 + (j + 1)) n H3 H' O) (fun N hN => ?_) ?_
          · have hb9 := hb3.up R9.ext
            have han9 := R9.ext _ _ han3
            refine ⟨_, rfl, rfl, _, rfl, ?_⟩
            refine ite2 (fun g5 => ?_) (fun _ => hN _ _ ⟨lev, rfl, R9⟩)
            refine ⟨_, rfl, wh, rfl, ?_⟩
            refine ite2 (fun gw => ?_) (fun _ => hN _ _ ⟨lev, rfl, R9⟩)
            have st5 : st = 5 := by
              have := of_decide_eq_true g5
              injection this
            obtain ⟨xs, rr, x0, x1, hO, hk, hrr, hrw⟩ := wh9 st5 gw
            have px : Pt lev H9 x0 ∧ Pt lev H9 x1 := by
              obtain ⟨ws, z1, _, z3⟩ := R9.r2 rr hrr
              rw [hrw] at z1
              cases z1
              exact ⟨z3 _ (by simp), z3 _ (by simp)⟩
            -- row + [odd]
            refine ⟨_, rfl, _, rfl, O, xs, _, .ref rr, rfl, rfl, SqL.of hO, atI_nat hk, _, rfl, _, rfl, an, _, 0, .str nm, rfl, rfl, SqL.of han9, hy0, p, nm, rfl, hb9, y0, fun v Ha ea od => ⟨by show 1 ≤ sizeLine; decide, fun t1 nt1 => ⟨rr, t1, [x0, x1], [v], rfl, rfl, (ea.trans (Ext.new nt1)) _ _ hrw, upd_same, by show 3 ≤ _; decide, fun l1 nl1 => ?_⟩⟩⟩
            have odr : Pt lev Ha v := .inl (od.up R9.nw)
            have eb := Ext.new (H := Ha) (o := .lst [v]) nt1
            generalize upd Ha t1 _ = Hb at *
            have ec := Ext.new (H := Hb) (o := .lst ([x0, x1] ++ [v])) nl1
            have kc : (upd Hb l1 (.lst ([x0, x1] ++ [v]))) l1 = some (.lst [x0, x1, v]) := upd_same
            have xc := (ea.trans eb).trans ec
            have fc := (ea.trans eb).free nl1
            generalize upd Hb l1 _ = Hc at *
            -- row + [[]]
            refine ⟨_, rfl, _, rfl, O, xs, _, .ref rr, rfl, rfl, SqL.of (xc _ _ hO), atI_nat hk, by show 0 ≤ sizeLine; decide, fun e0 ne0 => ⟨by show 1 ≤ sizeLine; decide, fun t2 nt2 => ⟨rr, t2, [x0, x1], [.ref e0], rfl, rfl, ((xc.trans (Ext.new ne0)).trans (Ext.new nt2)) _ _ hrw, upd_same, by show 3 ≤ _; decide, fun l2 nl2 => ?_⟩⟩⟩
            have ed := Ext.new (H := Hc) (o := .lst []) ne0
            have kd0 : (upd Hc e0 (.lst [])) e0 = some (.lst []) := upd_same
            have xd := xc.trans ed
            have fe0 := xc.free ne0
            generalize upd Hc e0 _ = Hd at *
            have ee := Ext.new (H := Hd) (o := .lst [.ref e0]) nt2
            have xe := xd.trans ee
            generalize upd Hd t2 _ = He at *
            have ef := Ext.new (H := He) (o := .lst ([x0, x1] ++ [.ref e0])) nl2
            have kf : (upd He l2 (.lst ([x0, x1] ++ [.ref e0]))) l2 = some (.lst [x0, x1, .ref e0]) := upd_same
            have xf := xe.trans ef
            have ff := xe.free nl2
            have ne02 : e0 ≠ l2 := fun z => by rw [← z, ee _ _ kd0] at nl2; cases nl2
            generalize upd He l2 _ = Hf at *
            -- row[:1]
            refine ⟨_, rfl, _, rfl, O, xs, _, .ref rr, rfl, rfl, SqL.of (xf _ _ hO), atI_nat hk, _, rfl, rr, [x0, x1], rfl, SqL.of (xf _ _ hrw), fun l3 nl3 => ?_⟩
            have ecut : cutV [x0, x1] none (some 1) = [x0] := cut_take [x0, x1] 1
            rw [ecut]
            have eg := Ext.new (H := Hf) (o := .lst [x0]) nl3
            have kg : (upd Hf l3 (.lst [x0])) l3 = some (.lst [x0]) := upd_same
            have xg := xf.trans eg
            have fg := xf.free nl3
            generalize upd Hf l3 _ = Hg at *
            refine ⟨by show 3 ≤ sizeLine; decide, fun vl nvl => ?_⟩
            have eh := Ext.new (H := Hg) (o := .lst [.ref l1, .ref l2, .ref l3]) nvl
            have kh : (upd Hg vl (.lst [.ref l1, .ref l2, .ref l3])) vl = some (.lst [.ref l1, .ref l2, .ref l3]) := upd_same
            have xh := xg.trans eh
            generalize upd Hg vl _ = Hh at *
            refine ⟨_, rfl, p, 3, rfl, hb9.up xh, by decide, by decide, fun r7 r70 r71 => ?_⟩
            -- what is put in
            have put : ∀ (c : Addr) (ws : List V), H9 c = none → Hh c = some (.lst ws) → ws.length ≤ 3 → (∀ x ∈ ws, Pt (levA lev c 2) Hh x) → ∃ lev', S s7'' wh s12'' = S s7'' wh s12'' ∧ Reg lev' (3 + (j + 1)) n H3 (upd Hh O (.lst (xs.set ak (.ref c)))) O := fun c ws hc hc' lw hw => by
              have RB := R9.add (k := 2) xh hc hc' (.inr rfl) (fun z => by omega) (fun _ => ⟨lw, hw⟩)
              obtain ⟨xs', g1, g2, g3⟩ := RB.r3
              rw [xh _ _ hO] at g1
              cases g1
              refine ⟨_, rfl, RB.set3 (by rw [List.length_set]; exact g2) fun y hy => ?_⟩
              rcases List.mem_or_eq_of_mem_set hy with h | rfl
              · exact g3 y h
              · exact .inr ⟨c, rfl, levA_at⟩
            have p0 : ∀ c : Addr, H9 c = none → Pt (levA lev c 2) Hh x0 := fun c hc => pt_levA R9 xh hc px.1
            have p1 : ∀ c : Addr, H9 c = none → Pt (levA lev c 2) Hh x1 := fun c hc => pt_levA R9 xh hc px.2
            have hOh := xh _ _ hO
            have lxs : ak < xs.length := (List.getElem?_eq_some_iff.mp hk).1
            have : r7 = 0 ∨ r7 = 1 ∨ r7 = 2 := by omega
            rcases this with rfl | rfl | rfl
            · obtain ⟨lev', z1, z2⟩ := put l1 [x0, x1, v] fc (((((ed.trans ee).trans ef).trans eg).trans eh) _ _ kc) (by simp) (fun x hx => by
                simp only [List.mem_cons, List.not_mem_nil, or_false] at hx
                rcases hx with rfl | rfl | rfl
                · exact p0 _ fc
                · exact p1 _ fc
                · exact pt_levA (R9.up (ea.trans eb)) ((((((ec.trans ed).trans ee).trans ef).trans eg)).trans eh) nl1 (odr.up eb))
              exact ⟨vl, _, _, .ref l1, rfl, rfl, SqL.of kh, by rfl, _, rfl, _, rfl, O, xs, _, ak, rfl, rfl, hOh, ixi_nat lxs, hN _ _ ⟨lev', rfl, z2⟩⟩
            · obtain ⟨lev', z1, z2⟩ := put l2 [x0, x1, .ref e0] ff ((eg.trans eh) _ _ kf) (by simp) (fun x hx => by
                simp only [List.mem_cons, List.not_mem_nil, or_false] at hx
                rcases hx with rfl | rfl | rfl
                · exact p0 _ ff
                · exact p1 _ ff
                · have he : rm (levA lev l2 2) Hh e0 = some (.lst []) := by
                    rw [rm_at (by rw [levA_ne ne02]; exact R9.fresh fe0)]
                    exact (((ee.trans ef).trans eg).trans eh) _ _ kd0
                  exact .inl (od_at ⟨_, .lst he .nil, kd_list (n := 0) (fun e h => nomatch h) (by decide)⟩ he (fun xs => ⟨(fun e => by cases e; exact .inl rfl), (fun e => nomatch e)⟩)))
              exact ⟨vl, _, _, .ref l2, rfl, rfl, SqL.of kh, by rfl, _, rfl, _, rfl, O, xs, _, ak, rfl, rfl, hOh, ixi_nat lxs, hN _ _ ⟨lev', rfl, z2⟩⟩
            · obtain ⟨lev', z1, z2⟩ := put l3 [x0] fg (eh _ _ kg) (by simp) (fun x hx => by
                rw [List.mem_singleton.mp hx]
                exact p0 _ fg)
              exact ⟨vl, _, _, .ref l3, rfl, rfl, SqL.of kh, by rfl, _, rfl, _, rfl, O, xs, _, ak, rfl, rfl, hOh, ixi_nat lxs, hN _ _ ⟨lev', rfl, z2⟩⟩
          rintro σ' H10 ⟨lev', rfl, R10⟩
          have hb10 := hb3.up R10.ext
          have han10 := R10.ext _ _ han3
          refine ⟨_, rfl, rfl, _, rfl, ?_⟩
          refine ite2 (fun _ => ?_) (fun _ => ⟨_, _, _, _, _, _, _, rfl, R10⟩)
          refine ⟨_, rfl, _, rfl, an, _, 0, .str nm, rfl, rfl, SqL.of han10, hy0, p, nm, rfl, hb10, y0, fun v Ha ea od => ?_⟩
          have R11 := R10.up ea
          obtain ⟨xs, hO, lO, hR⟩ := R11.r3
          refine ⟨_, rfl, _, rfl, O, xs, _, ak, rfl, rfl, hO, ixi_nat (by omega), ⟨_, _, _, _, _, _, _, rfl, R11.set3 (by rw [List.length_set]; exact lO) fun y hy => ?_⟩⟩
          rcases List.mem_or_eq_of_mem_set hy with h | rfl
          · exact hR y h
          · exact .inl (od.up R10.nw)
        · rintro σ H6 ⟨s7', s8', s9', s10', s11', s12', lev, rfl, R6⟩
          exact hN _ _ ⟨_, _, _, _, _, _, _, _, rfl, R6⟩
      rintro σ' H6 ⟨s7'', s8'', s9'', s10'', s11'', s12'', lev6, m6, rfl, R6⟩
      have tk6 : Tk 5 H6 (.ref O) := R6.tk (by omega)
      have x6 := R6.ext
      have hb6 := hb3.up x6
      have han6 := x6 _ _ han3
      -- the whole
      refine cutN (fun σ' H' => ∃ v, σ' = [some (.ref a), some (.ref p), some (.int (0 + (i : Int))), some (.ref an), some (.int (n : Int)), some v, s6', s7'', s8'', s9'', s10'', s11'', s12'', s13, s14, s15, none] ∧ Ext H6 H' ∧ Tk 5 H' v) (fun N hN => ?_) ?_
      · refine ⟨_, rfl, p, 10, rfl, hb6, by decide, by decide, fun r7 r70 r71 => ⟨rfl, _, rfl, ?_⟩⟩
        refine ite2 (fun _ => ?_) (fun _ => hN _ _ ⟨_, rfl, Ext.refl _, tk6⟩)
        refine ⟨_, rfl, _, rfl, an, _, 0, .str nm, rfl, rfl, SqL.of han6, hy0, p, nm, rfl, hb6, y0, fun v Ha ea od => ?_⟩
        exact hN _ _ ⟨v, rfl, ea, od.1.up nw_ext (by omega)⟩
      rintro σ' H7 ⟨v7, rfl, e7, tk7⟩
      refine cutN (fun σ' H' => ∃ v, σ' = [some (.ref a), some (.ref p), some (.int (0 + (i : Int))), some (.ref an), some (.int (n : Int)), some v, s6', s7'', s8'', s9'', s10'', s11'', s12'', s13, s14, s15, none] ∧ Ext H7 H' ∧ Tk 5 H' v) (fun N hN => ?_) ?_
      · refine ⟨_, rfl, p, 3, rfl, hb6.up e7, by decide, by decide, fun r7 r70 r71 => ⟨rfl, _, rfl, ?_⟩⟩
        refine ite2 (fun _ => ?_) (fun _ => hN _ _ ⟨_, rfl, Ext.refl _, tk7⟩)
        obtain ⟨d, hd, kd⟩ := id tk7
        refine ⟨_, rfl, _, _, _, _, _, rfl, .ty "list", ty_of hd, ki_list d, _, rfl, ?_⟩
        refine ite2 (fun g => ?_) (fun _ => hN _ _ ⟨_, rfl, Ext.refl _, tk7⟩)
        cases hd with
        | lst h1 h2 =>
          refine ⟨_, rfl, _, _, rfl, .inl ⟨SqL.of h1, fun t ht => ?_⟩⟩
          exact hN _ _ ⟨_, rfl, Ext.new ht, _, .tup upd_same (DqAll.up (Ext.new ht) h2), kd_tupled kd⟩
        | _ => cases g
      rintro σ' H8 ⟨v, rfl, e8, d, hd, kd⟩
      have S8 := sysUp S1 ((e13.trans x6).trans (e7.trans e8))
      obtain ⟨res, due⟩ := due_ex kd
      have ft := kd.gd.fits (Nat.le_refl 5)
      have sh := res_shaped due
      refine ⟨_, rfl, v, d, 5, res, rfl, hd, kd, due, fun dv H9 e9 hdv => ?_⟩
      have S9 := sysUp S8 e9
      have hd9 := hd.up e9
      refine ⟨_, rfl, v, d, rfl, S9, hd9, ft.sh, ft.dep, ft.len, _, _, rfl, ?_⟩
      refine ⟨_, rfl, by decide, by decide, for_range (n := 2) (fun j σ H' => ∃ s15, σ = [some (.ref a), some (.ref p), some (.int (0 + (i : Int))), some (.ref an), some (.int (n : Int)), some v, s6', s7'', s8'', s9'', s10'', s11'', s12'', some dv, some (.str d.shown), s15, none] ∧ Ext H9 H')
        ⟨_, rfl, Ext.refl _⟩ ?_ ?_⟩
      · rintro j σ Ha hj ⟨s15', rfl, ea⟩
        have hda := hd9.up ea
        refine ⟨_, rfl, v, res, rfl, told_of hda kd due, fun x Hb eb hx => ⟨_, rfl, resD res, resD res, sysUp S9 (ea.trans eb), hx, hdv.up (ea.trans eb), sh, sh, _, rfl, ?_⟩⟩
        rw [SeqAt.eqv_refl _ (SeqAt.canLay_of_shaped sh)]
        refine iteF ?_
        refine ⟨_, rfl, v, d, rfl, sysUp S9 (ea.trans eb), hda.up eb, ft.sh, ft.dep, ft.len, _, rfl, rfl, _, rfl, ?_⟩
        rw [decide_eq_true (rfl : V.str d.shown = V.str d.shown)]
        refine iteF ?_
        exact ⟨_, rfl, ea.trans eb⟩
      · rintro σ Ha ⟨s15', rfl, ea⟩
        exact ⟨_, _, _, _, _, _, _, _, _, _, _, _, _, _, rfl, ((e13.trans x6).trans (e7.trans e8)).trans (e9.trans ea)⟩
    · rintro σ H' ⟨s2, s3, s4, s5, s6, s7, s8, s9, s10, s11, s12, s13, s14, s15, rfl, e⟩
      have S2 := sysUp S1 e
      refine ⟨by show 0 ≤ sizeLine; decide, fun t0 n0 => ⟨by show 2 ≤ sizeLine; decide, fun t1 n1 => ⟨by show 1 ≤ sizeLine; decide, fun l nl => fun x dx nx ndx _ => ?_⟩⟩⟩
      have x0 := Ext.new (H := H') (o := .tup []) n0
      have k0 : (upd H' t0 (.tup [])) t0 = some (.tup []) := upd_same
      generalize upd H' t0 _ = Ha at *
      have x1 := Ext.new (H := Ha) (o := .tup [.str "any", .ref t0]) n1
      have k1 : (upd Ha t1 (.tup [.str "any", .ref t0])) t1 = some (.tup [.str "any", .ref t0]) := upd_same
      generalize upd Ha t1 _ = Hb at *
      have x2 := Ext.new (H := Hb) (o := .lst [.ref t1]) nl
      have k2 : (upd Hb l (.lst [.ref t1])) l = some (.lst [.ref t1]) := upd_same
      generalize upd Hb l _ = Hc at *
      have hin : DqAll Hc [.ref t1] ([((("any", []), false, false) : HPl)].map hD) :=
        .cons (.tup (x2 _ _ k1) (.cons (.str _) (.cons (.tup (x2 _ _ (x1 _ _ k0)) .nil) .nil))) .nil
      have kdn : Kd 3 (.list ([((("any", []), false, false) : HPl)].map hD)) := by
        refine kd_list (n := 2) (fun e he => ?_) (by decide)
        have he' : e = .tuple [.str "any", .tuple []] := List.mem_singleton.mp he
        rw [he']
        refine kd_tuple (n := 1) (fun e he => ?_) (by decide)
        simp only [List.mem_cons, List.not_mem_nil, or_false] at he
        rcases he with rfl | rfl
        · exact kd_leaf ((gd_str _ (by decide +kernel) (by decide +kernel)).up (by omega)) rfl
        · exact kd_tuple (n := 0) (fun e h => nomatch h) (by decide)
      have gps : GPs ([((("any", []), false, false) : HPl)].map (·.1)) := ⟨by simp, by simp, fun q hq => by
        have hq' : q = ((("any" : Str), ([] : List Arm)) : Place) := List.mem_singleton.mp hq
        rw [hq']
        exact ⟨.inr rfl, (fun a h => nomatch h), by simp⟩⟩
      have row := rowP_of (C := C) (.lst k2 hin) kdn
      refine ⟨Hc, x, dx, .ref l, rfl, nx, Ext.mut (Ext.new ndx) nx, upd_same, .inr (.inr ⟨l, _, _, _, rfl, .inl k2, hin, rfl, gps, row, fun g hg => (by cases hg), fun _ => ⟨fun i hi => (by cases hi), fun _ Hd xd hP => ⟨rfl, ?_⟩⟩⟩)⟩
      obtain ⟨dxp, _, _, _, _, hx, _⟩ := id hP
      have S3 := sysUp S2 (((x0.trans x1).trans x2).trans xd)
      have nos : ∀ Hz, Ext Hd Hz → NoSeq C Hz (.ref x) := fun Hz ez => .inr ⟨x, dxp, _, rfl, ez _ _ hx⟩
      refine ⟨_, rfl, .ref x, .wrong, rfl, .inl ⟨.inr ⟨nos _ (Ext.refl _), rfl⟩, rfl⟩, fun w1 He ee d1 => ⟨_, rfl, by show 1 ≤ sizeLine; decide, fun l1 nl1 => ?_⟩⟩
      have ef := Ext.new (H := He) (o := .lst [.ref x]) nl1
      have kf : (upd He l1 (.lst [.ref x])) l1 = some (.lst [.ref x]) := upd_same
      generalize upd He l1 _ = Hf at *
      have edf := ee.trans ef
      refine ⟨.ref l1, .wrong, rfl, .inl ⟨.inl ⟨l1, [.ref x], [false], rfl, .inl kf, by simp, rfl, fun i y c hy hc => ?_, rfl⟩, rfl⟩, fun w2 Hg eg d2 => ?_⟩
      · obtain ⟨rfl, rfl, rfl⟩ : i = 0 ∧ y = .ref x ∧ c = false := by
          cases i with
          | zero =>
            cases hy
            cases hc
            exact ⟨rfl, rfl, rfl⟩
          | succ i => cases hy
        exact .inr (.inr ⟨nos _ edf, rfl⟩)
      refine ⟨_, rfl, by show 2 ≤ sizeLine; decide, fun t2 nt2 => ⟨by show 1 ≤ sizeLine; decide, fun l2 nl2 => ?_⟩⟩
      have eh := Ext.new (H := Hg) (o := .tup [.str "any", .ref x]) nt2
      have kh : (upd Hg t2 (.tup [.str "any", .ref x])) t2 = some (.tup [.str "any", .ref x]) := upd_same
      generalize upd Hg t2 _ = Hh at *
      have ei := Ext.new (H := Hh) (o := .lst [.ref t2]) nl2
      have ki : (upd Hh l2 (.lst [.ref t2])) l2 = some (.lst [.ref t2]) := upd_same
      generalize upd Hh l2 _ = Hi at *
      have edi := ((edf.trans eg).trans eh).trans ei
      refine ⟨.ref l2, .wrong, rfl, .inl ⟨.inl ⟨l2, [.ref t2], [false], rfl, .inl ki, by simp, rfl, fun i y c hy hc => ?_, rfl⟩, rfl⟩, fun w3 Hj ej d3 => ?_⟩
      · obtain ⟨rfl, rfl, rfl⟩ : i = 0 ∧ y = .ref t2 ∧ c = false := by
          cases i with
          | zero =>
            cases hy
            cases hc
            exact ⟨rfl, rfl, rfl⟩
          | succ i => cases hy
        exact .inl ⟨t2, .str "any", .ref x, true, false, rfl, .inr (ei _ _ kh), ⟨_, .str _, rfl⟩, .inr ⟨nos _ edi, rfl⟩, rfl⟩
      have d1j := d1.up ((((ef.trans eg).trans eh).trans ei).trans ej)
      have d2j := d2.up ((eh.trans ei).trans ej)
      refine ⟨by show 3 ≤ sizeLine; decide, fun lo nlo => ?_⟩
      have ek := Ext.new (H := Hj) (o := .lst [w1, w2, w3]) nlo
      have kk : (upd Hj lo (.lst [w1, w2, w3])) lo = some (.lst [w1, w2, w3]) := upd_same
      generalize upd Hj lo _ = Hk at *
      refine ⟨by show 2 ≤ sizeLine; decide, fun t3 nt3 => ⟨by show 1 ≤ sizeLine; decide, fun l3 nl3 => ?_⟩⟩
      have em := Ext.new (H := Hk) (o := .tup [.str "Wrong", .int 0]) nt3
      have km : (upd Hk t3 (.tup [.str "Wrong", .int 0])) t3 = some (.tup [.str "Wrong", .int 0]) := upd_same
      generalize upd Hk t3 _ = Hm at *
      have en := Ext.new (H := Hm) (o := .lst [.ref t3]) nl3
      have kn : (upd Hm l3 (.lst [.ref t3])) l3 = some (.lst [.ref t3]) := upd_same
      generalize upd Hm l3 _ = Hn at *
      refine ⟨l3, 3, [.ref t3], rfl, rfl, kn, by decide, by decide, by show 3 ≤ sizeLine; decide, fun pq npq => ?_⟩
      have eo := Ext.new (H := Hn) (o := .lst (List.replicate (3 : Int).toNat [V.ref t3]).flatten) npq
      have ko : (upd Hn pq (.lst (List.replicate (3 : Int).toNat [V.ref t3]).flatten)) pq = some (.lst [.ref t3, .ref t3, .ref t3]) := upd_same
      generalize upd Hn pq _ = Ho at *
      have ekn := ((ek.trans em).trans en).trans eo
      have dt : Dq Ho (.ref t3) (resD .wrong) := .tup ((en.trans eo) _ _ km) (.cons (.str _) (.cons (.int _) .nil))
      have shw : SeqAt.shaped (.list [resD .wrong, resD .wrong, resD .wrong]) = true := by decide +kernel
      refine ⟨.list [resD .wrong, resD .wrong, resD .wrong], .list [resD .wrong, resD .wrong, resD .wrong], sysUp S3 ((edi.trans ej).trans ekn), .lst (((em.trans en).trans eo) _ _ kk) (.cons (d1j.up ekn) (.cons (d2j.up ekn) (.cons (d3.up ekn) .nil))), .lst ko (.cons dt (.cons dt (.cons dt .nil))), shw, shw, ?_⟩
      rw [SeqAt.eqv_refl _ (SeqAt.canLay_of_shaped shw)]
      exact q _
end
end K22

set_option Elab.async false
set_option linter.all false
set_option maxRecDepth 100000
set_option maxHeartbeats 4000000
namespace K22
open PySem PySem.Spec PyProof.Rows L2 Ol RZ

section
variable {P : Program} {w : World} {K : PySem.W.Frag} {mg : Str → Option Value} {base : Heap} {R : Addr}
abbrev s_xwrong : Stmt := inClass (topS 3) 0
theorem sc_xwrong : FnScope ["self", "place"] ["self", "place"] (defScope s_xwrong) := ⟨rfl, rfl, rfl, by decide +kernel, rfl, by decide +kernel, by decide +kernel⟩
theorem ok_xwrong {f : Addr} {fd : FuncData} (F : Fun K "__init__" "Wrong.__init__" s_xwrong f fd) (T : XT K mg "Wrong" "place" R) :
    FnOk P w K mg base CX0 1 f fd ["self", "place"] (spXI "place" R) := by
  refine F.ok sc_xwrong (fun vs H Q E h => ?_) (fun cdv A outer s H vs Q E hr h => ?_)
  · obtain ⟨a, x, rfl, _⟩ := h
    rfl
  · obtain ⟨a, x, rfl, ha, q⟩ := h
    refine ⟨_, (pss_one (ps_ost (pv 0) (pv 1))), ?_⟩
    refine ⟨_, rfl, _, rfl, a, R, rfl, T.ox, T.nF, .inl ⟨ha, fun dx hdx nda => ?_⟩⟩
    refine q dx _ hdx nda (fun b h1 h2 => ?_) upd_same ?_
    · rw [upd_ne h1, upd_ne h2]
    · rw [upd_ne nda]
      exact upd_same
end
section
variable {P : Program} {w : World} {K : PySem.W.Frag} {mg : Str → Option Value} {base : Heap} {R : Addr}
abbrev s_xtwo : Stmt := inClass (topS 6) 0
theorem sc_xtwo : FnScope ["self", "place"] ["self", "place"] (defScope s_xtwo) := ⟨rfl, rfl, rfl, by decide +kernel, rfl, by decide +kernel, by decide +kernel⟩
theorem ok_xtwo {f : Addr} {fd : FuncData} (F : Fun K "__init__" "TwoElse.__init__" s_xtwo f fd) (T : XT K mg "TwoElse" "place" R) :
    FnOk P w K mg base CX0 1 f fd ["self", "place"] (spXI "place" R) := by
  refine F.ok sc_xtwo (fun vs H Q E h => ?_) (fun cdv A outer s H vs Q E hr h => ?_)
  · obtain ⟨a, x, rfl, _⟩ := h
    rfl
  · obtain ⟨a, x, rfl, ha, q⟩ := h
    refine ⟨_, (pss_one (ps_ost (pv 0) (pv 1))), ?_⟩
    refine ⟨_, rfl, _, rfl, a, R, rfl, T.ox, T.nF, .inl ⟨ha, fun dx hdx nda => ?_⟩⟩
    refine q dx _ hdx nda (fun b h1 h2 => ?_) upd_same ?_
    · rw [upd_ne h1, upd_ne h2]
    · rw [upd_ne nda]
      exact upd_same
end
theorem all_mk {l : PySem.W.OpenLaw} {w : World} {K : PySem.W.Frag} {h : Heap} {mg : Str → Option Value} {fa C W NP TO B : Addr} (X : K.In h) (G : h.Ns mainGlobals mg) (hfa : mg "law" = some (.ref fa))
    {f0 : Addr} {od0 an0 : Option Addr} {sl0 : Array (Option Value)} {oc0 kV0 dc0 pm0 cd0 ct0 : Value}
    (a0 : PySem.W.nsIn K mainGlobals "is_integer" = some (some (.ref f0)))
    (l0 : K.lookup f0 = some ⟨oc0, od0, .func (PySem.W.fnOf "is_integer" "is_integer" (defArgs s_is_integer) (defBody s_is_integer) (defScope s_is_integer) .none kV0 dc0 pm0 an0 cd0 ct0), sl0⟩)
    (c0 : PySem.W.codeIn K cd0 "is_integer" = true) (k0 : PySem.W.keepIn K (.ref f0) = true)
    {f1 : Addr} {od1 an1 : Option Addr} {sl1 : Array (Option Value)} {oc1 kV1 dc1 pm1 cd1 ct1 : Value}
    (a1 : PySem.W.nsIn K mainGlobals "is_number" = some (some (.ref f1)))
    (l1 : K.lookup f1 = some ⟨oc1, od1, .func (PySem.W.fnOf "is_number" "is_number" (defArgs s_is_number) (defBody s_is_number) (defScope s_is_number) .none kV1 dc1 pm1 an1 cd1 ct1), sl1⟩)
    (c1 : PySem.W.codeIn K cd1 "is_number" = true) (k1 : PySem.W.keepIn K (.ref f1) = true)
    {f2 : Addr} {od2 an2 : Option Addr} {sl2 : Array (Option Value)} {oc2 kV2 dc2 pm2 cd2 ct2 : Value}
    (a2 : PySem.W.nsIn K mainGlobals "is_name" = some (some (.ref f2)))
    (l2 : K.lookup f2 = some ⟨oc2, od2, .func (PySem.W.fnOf "is_name" "is_name" (defArgs s_is_name) (defBody s_is_name) (defScope s_is_name) .none kV2 dc2 pm2 an2 cd2 ct2), sl2⟩)
    (c2 : PySem.W.codeIn K cd2 "is_name" = true) (k2 : PySem.W.keepIn K (.ref f2) = true)
    {f3 : Addr} {od3 an3 : Option Addr} {sl3 : Array (Option Value)} {oc3 kV3 dc3 pm3 cd3 ct3 : Value}
    (a3 : PySem.W.nsIn K mainGlobals "is_word" = some (some (.ref f3)))
    (l3 : K.lookup f3 = some ⟨oc3, od3, .func (PySem.W.fnOf "is_word" "is_word" (defArgs s_is_word) (defBody s_is_word) (defScope s_is_word) .none kV3 dc3 pm3 an3 cd3 ct3), sl3⟩)
    (c3 : PySem.W.codeIn K cd3 "is_word" = true) (k3 : PySem.W.keepIn K (.ref f3) = true)
    {f4 : Addr} {od4 an4 : Option Addr} {sl4 : Array (Option Value)} {oc4 kV4 dc4 pm4 cd4 ct4 : Value}
    (a4 : PySem.W.nsIn K mainGlobals "is_mode" = some (some (.ref f4)))
    (l4 : K.lookup f4 = some ⟨oc4, od4, .func (PySem.W.fnOf "is_mode" "is_mode" (defArgs s_mode) (defBody s_mode) (defScope s_mode) .none kV4 dc4 pm4 an4 cd4 ct4), sl4⟩)
    (c4 : PySem.W.codeIn K cd4 "is_mode" = true) (k4 : PySem.W.keepIn K (.ref f4) = true)
    {f5 : Addr} {od5 an5 : Option Addr} {sl5 : Array (Option Value)} {oc5 kV5 dc5 pm5 cd5 ct5 : Value}
    (a5 : PySem.W.nsIn K mainGlobals "is_arm" = some (some (.ref f5)))
    (l5 : K.lookup f5 = some ⟨oc5, od5, .func (PySem.W.fnOf "is_arm" "is_arm" (defArgs s_is_arm) (defBody s_is_arm) (defScope s_is_arm) .none kV5 dc5 pm5 an5 cd5 ct5), sl5⟩)
    (c5 : PySem.W.codeIn K cd5 "is_arm" = true) (k5 : PySem.W.keepIn K (.ref f5) = true)
    {f6 : Addr} {od6 an6 : Option Addr} {sl6 : Array (Option Value)} {oc6 kV6 dc6 pm6 cd6 ct6 : Value}
    (a6 : PySem.W.nsIn K mainGlobals "is_row_of" = some (some (.ref f6)))
    (l6 : K.lookup f6 = some ⟨oc6, od6, .func (PySem.W.fnOf "is_row_of" "is_row_of" (defArgs s_row) (defBody s_row) (defScope s_row) .none kV6 dc6 pm6 an6 cd6 ct6), sl6⟩)
    (c6 : PySem.W.codeIn K cd6 "is_row_of" = true) (k6 : PySem.W.keepIn K (.ref f6) = true)
    {f7 : Addr} {od7 an7 : Option Addr} {sl7 : Array (Option Value)} {oc7 kV7 dc7 pm7 cd7 ct7 : Value}
    (a7 : PySem.W.nsIn K mainGlobals "is_place" = some (some (.ref f7)))
    (l7 : K.lookup f7 = some ⟨oc7, od7, .func (PySem.W.fnOf "is_place" "is_place" (defArgs s_place) (defBody s_place) (defScope s_place) .none kV7 dc7 pm7 an7 cd7 ct7), sl7⟩)
    (c7 : PySem.W.codeIn K cd7 "is_place" = true) (k7 : PySem.W.keepIn K (.ref f7) = true)
    {f8 : Addr} {od8 an8 : Option Addr} {sl8 : Array (Option Value)} {oc8 kV8 dc8 pm8 cd8 ct8 : Value}
    (a8 : PySem.W.nsIn K mainGlobals "is_else" = some (some (.ref f8)))
    (l8 : K.lookup f8 = some ⟨oc8, od8, .func (PySem.W.fnOf "is_else" "is_else" (defArgs s_else) (defBody s_else) (defScope s_else) .none kV8 dc8 pm8 an8 cd8 ct8), sl8⟩)
    (c8 : PySem.W.codeIn K cd8 "is_else" = true) (k8 : PySem.W.keepIn K (.ref f8) = true)
    {f9 : Addr} {od9 an9 : Option Addr} {sl9 : Array (Option Value)} {oc9 kV9 dc9 pm9 cd9 ct9 : Value}
    (a9 : PySem.W.nsIn K mainGlobals "_law_bag" = some (some (.ref f9)))
    (l9 : K.lookup f9 = some ⟨oc9, od9, .func (PySem.W.fnOf "_law_bag" "_law_bag" (defArgs s__law_bag) (defBody s__law_bag) (defScope s__law_bag) .none kV9 dc9 pm9 an9 cd9 ct9), sl9⟩)
    (c9 : PySem.W.codeIn K cd9 "_law_bag" = true) (k9 : PySem.W.keepIn K (.ref f9) = true)
    {f10 : Addr} {od10 an10 : Option Addr} {sl10 : Array (Option Value)} {oc10 kV10 dc10 pm10 cd10 ct10 : Value}
    (a10 : PySem.W.nsIn K mainGlobals "_law_take" = some (some (.ref f10)))
    (l10 : K.lookup f10 = some ⟨oc10, od10, .func (PySem.W.fnOf "_law_take" "_law_take" (defArgs s__law_take) (defBody s__law_take) (defScope s__law_take) .none kV10 dc10 pm10 an10 cd10 ct10), sl10⟩)
    (c10 : PySem.W.codeIn K cd10 "_law_take" = true) (k10 : PySem.W.keepIn K (.ref f10) = true)
    {f11 : Addr} {od11 an11 : Option Addr} {sl11 : Array (Option Value)} {oc11 kV11 dc11 pm11 cd11 ct11 : Value}
    (a11 : PySem.W.nsIn K mainGlobals "_law_names" = some (some (.ref f11)))
    (l11 : K.lookup f11 = some ⟨oc11, od11, .func (PySem.W.fnOf "_law_names" "_law_names" (defArgs s__law_names) (defBody s__law_names) (defScope s__law_names) .none kV11 dc11 pm11 an11 cd11 ct11), sl11⟩)
    (c11 : PySem.W.codeIn K cd11 "_law_names" = true) (k11 : PySem.W.keepIn K (.ref f11) = true)
    {f12 : Addr} {od12 an12 : Option Addr} {sl12 : Array (Option Value)} {oc12 kV12 dc12 pm12 cd12 ct12 : Value}
    (a12 : PySem.W.nsIn K mainGlobals "_law_is_name" = some (some (.ref f12)))
    (l12 : K.lookup f12 = some ⟨oc12, od12, .func (PySem.W.fnOf "_law_is_name" "_law_is_name" (defArgs s__law_is_name) (defBody s__law_is_name) (defScope s__law_is_name) .none kV12 dc12 pm12 an12 cd12 ct12), sl12⟩)
    (c12 : PySem.W.codeIn K cd12 "_law_is_name" = true) (k12 : PySem.W.keepIn K (.ref f12) = true)
    {f13 : Addr} {od13 an13 : Option Addr} {sl13 : Array (Option Value)} {oc13 kV13 dc13 pm13 cd13 ct13 : Value}
    (a13 : PySem.W.nsIn K mainGlobals "_law_is_integer" = some (some (.ref f13)))
    (l13 : K.lookup f13 = some ⟨oc13, od13, .func (PySem.W.fnOf "_law_is_integer" "_law_is_integer" (defArgs s__law_is_integer) (defBody s__law_is_integer) (defScope s__law_is_integer) .none kV13 dc13 pm13 an13 cd13 ct13), sl13⟩)
    (c13 : PySem.W.codeIn K cd13 "_law_is_integer" = true) (k13 : PySem.W.keepIn K (.ref f13) = true)
    {f14 : Addr} {od14 an14 : Option Addr} {sl14 : Array (Option Value)} {oc14 kV14 dc14 pm14 cd14 ct14 : Value}
    (a14 : PySem.W.nsIn K mainGlobals "_law_odd" = some (some (.ref f14)))
    (l14 : K.lookup f14 = some ⟨oc14, od14, .func (PySem.W.fnOf "_law_odd" "_law_odd" (defArgs s__law_odd) (defBody s__law_odd) (defScope s__law_odd) .none kV14 dc14 pm14 an14 cd14 ct14), sl14⟩)
    (c14 : PySem.W.codeIn K cd14 "_law_odd" = true) (k14 : PySem.W.keepIn K (.ref f14) = true)
    {f15 : Addr} {od15 an15 : Option Addr} {sl15 : Array (Option Value)} {oc15 kV15 dc15 pm15 cd15 ct15 : Value}
    (a15 : PySem.W.nsIn K mainGlobals "_law_arm" = some (some (.ref f15)))
    (l15 : K.lookup f15 = some ⟨oc15, od15, .func (PySem.W.fnOf "_law_arm" "_law_arm" (defArgs s__law_arm) (defBody s__law_arm) (defScope s__law_arm) .none kV15 dc15 pm15 an15 cd15 ct15), sl15⟩)
    (c15 : PySem.W.codeIn K cd15 "_law_arm" = true) (k15 : PySem.W.keepIn K (.ref f15) = true)
    {f16 : Addr} {od16 an16 : Option Addr} {sl16 : Array (Option Value)} {oc16 kV16 dc16 pm16 cd16 ct16 : Value}
    (a16 : PySem.W.nsIn K mainGlobals "_law_bent" = some (some (.ref f16)))
    (l16 : K.lookup f16 = some ⟨oc16, od16, .func (PySem.W.fnOf "_law_bent" "_law_bent" (defArgs s__law_bent) (defBody s__law_bent) (defScope s__law_bent) .none kV16 dc16 pm16 an16 cd16 ct16), sl16⟩)
    (c16 : PySem.W.codeIn K cd16 "_law_bent" = true) (k16 : PySem.W.keepIn K (.ref f16) = true)
    {f17 : Addr} {od17 an17 : Option Addr} {sl17 : Array (Option Value)} {oc17 kV17 dc17 pm17 cd17 ct17 : Value}
    (a17 : PySem.W.nsIn K mainGlobals "_law_is_arm" = some (some (.ref f17)))
    (l17 : K.lookup f17 = some ⟨oc17, od17, .func (PySem.W.fnOf "_law_is_arm" "_law_is_arm" (defArgs s__law_is_arm) (defBody s__law_is_arm) (defScope s__law_is_arm) .none kV17 dc17 pm17 an17 cd17 ct17), sl17⟩)
    (c17 : PySem.W.codeIn K cd17 "_law_is_arm" = true) (k17 : PySem.W.keepIn K (.ref f17) = true)
    {f18 : Addr} {od18 an18 : Option Addr} {sl18 : Array (Option Value)} {oc18 kV18 dc18 pm18 cd18 ct18 : Value}
    (a18 : PySem.W.nsIn K mainGlobals "_law_due" = some (some (.ref f18)))
    (l18 : K.lookup f18 = some ⟨oc18, od18, .func (PySem.W.fnOf "_law_due" "_law_due" (defArgs s__law_due) (defBody s__law_due) (defScope s__law_due) .none kV18 dc18 pm18 an18 cd18 ct18), sl18⟩)
    (c18 : PySem.W.codeIn K cd18 "_law_due" = true) (k18 : PySem.W.keepIn K (.ref f18) = true)
    {f19 : Addr} {od19 an19 : Option Addr} {sl19 : Array (Option Value)} {oc19 kV19 dc19 pm19 cd19 ct19 : Value}
    (a19 : PySem.W.nsIn K mainGlobals "_law_told" = some (some (.ref f19)))
    (l19 : K.lookup f19 = some ⟨oc19, od19, .func (PySem.W.fnOf "_law_told" "_law_told" (defArgs s_told) (defBody s_told) (defScope s_told) .none kV19 dc19 pm19 an19 cd19 ct19), sl19⟩)
    (c19 : PySem.W.codeIn K cd19 "_law_told" = true) (k19 : PySem.W.keepIn K (.ref f19) = true)
    {f20 : Addr} {od20 an20 : Option Addr} {sl20 : Array (Option Value)} {oc20 kV20 dc20 pm20 cd20 ct20 : Value}
    (a20 : PySem.W.nsIn K mainGlobals "law" = some (some (.ref f20)))
    (l20 : K.lookup f20 = some ⟨oc20, od20, .func (PySem.W.fnOf "law" "law" (defArgs s_law) (defBody s_law) (defScope s_law) .none kV20 dc20 pm20 an20 cd20 ct20), sl20⟩)
    (c20 : PySem.W.codeIn K cd20 "law" = true) (k20 : PySem.W.keepIn K (.ref f20) = true)
    (aGC : PySem.W.nsIn K mainGlobals "Program" = some (some (.ref C)))
    (aGW : PySem.W.nsIn K mainGlobals "Wrong" = some (some (.ref W)))
    (aGNP : PySem.W.nsIn K mainGlobals "NoPlace" = some (some (.ref NP)))
    (aGTO : PySem.W.nsIn K mainGlobals "TwoElse" = some (some (.ref TO)))
    (aGB : PySem.W.nsIn K mainGlobals "LaneError" = some (some (.ref B)))
    {fm0 : Addr} {odm0 anm0 : Option Addr} {slm0 : Array (Option Value)} {ocm0 kVm0 dcm0 pmm0 cdm0 ctm0 : Value}
    (am0 : PySem.W.findIn K (.ref C) "__init__" = some (some (.ref fm0)))
    (im0 : PySem.W.isFn K (.ref fm0) = true)
    (lm0 : K.lookup fm0 = some ⟨ocm0, odm0, .func (PySem.W.fnOf "__init__" "Program.__init__" (defArgs (cP 0)) (defBody (cP 0)) (defScope (cP 0)) .none kVm0 dcm0 pmm0 anm0 cdm0 ctm0), slm0⟩)
    (cm0 : PySem.W.codeIn K cdm0 "Program.__init__" = true) (km0 : PySem.W.keepIn K (.ref fm0) = true)
    {fm1 : Addr} {odm1 anm1 : Option Addr} {slm1 : Array (Option Value)} {ocm1 kVm1 dcm1 pmm1 cdm1 ctm1 : Value}
    (am1 : PySem.W.findIn K (.ref C) "_check" = some (some (.ref fm1)))
    (im1 : PySem.W.isFn K (.ref fm1) = true)
    (lm1 : K.lookup fm1 = some ⟨ocm1, odm1, .func (PySem.W.fnOf "_check" "Program._check" (defArgs (cP 1)) (defBody (cP 1)) (defScope (cP 1)) .none kVm1 dcm1 pmm1 anm1 cdm1 ctm1), slm1⟩)
    (cm1 : PySem.W.codeIn K cdm1 "Program._check" = true) (km1 : PySem.W.keepIn K (.ref fm1) = true)
    {fm2 : Addr} {odm2 anm2 : Option Addr} {slm2 : Array (Option Value)} {ocm2 kVm2 dcm2 pmm2 cdm2 ctm2 : Value}
    (am2 : PySem.W.findIn K (.ref C) "places" = some (some (.ref fm2)))
    (im2 : PySem.W.isFn K (.ref fm2) = true)
    (lm2 : K.lookup fm2 = some ⟨ocm2, odm2, .func (PySem.W.fnOf "places" "Program.places" (defArgs (cP 7)) (defBody (cP 7)) (defScope (cP 7)) .none kVm2 dcm2 pmm2 anm2 cdm2 ctm2), slm2⟩)
    (cm2 : PySem.W.codeIn K cdm2 "Program.places" = true) (km2 : PySem.W.keepIn K (.ref fm2) = true)
    {fm3 : Addr} {odm3 anm3 : Option Addr} {slm3 : Array (Option Value)} {ocm3 kVm3 dcm3 pmm3 cdm3 ctm3 : Value}
    (am3 : PySem.W.findIn K (.ref W) "__init__" = some (some (.ref fm3)))
    (im3 : PySem.W.typeIn K (.ref fm3) = some (.type "function"))
    (lm3 : K.lookup fm3 = some ⟨ocm3, odm3, .func (PySem.W.fnOf "__init__" "Wrong.__init__" (defArgs s_xwrong) (defBody s_xwrong) (defScope s_xwrong) .none kVm3 dcm3 pmm3 anm3 cdm3 ctm3), slm3⟩)
    (cm3 : PySem.W.codeIn K cdm3 "Wrong.__init__" = true) (km3 : PySem.W.keepIn K (.ref fm3) = true)
    {fm4 : Addr} {odm4 anm4 : Option Addr} {slm4 : Array (Option Value)} {ocm4 kVm4 dcm4 pmm4 cdm4 ctm4 : Value}
    (am4 : PySem.W.findIn K (.ref NP) "__init__" = some (some (.ref fm4)))
    (im4 : PySem.W.typeIn K (.ref fm4) = some (.type "function"))
    (lm4 : K.lookup fm4 = some ⟨ocm4, odm4, .func (PySem.W.fnOf "__init__" "NoPlace.__init__" (defArgs s_xplace) (defBody s_xplace) (defScope s_xplace) .none kVm4 dcm4 pmm4 anm4 cdm4 ctm4), slm4⟩)
    (cm4 : PySem.W.codeIn K cdm4 "NoPlace.__init__" = true) (km4 : PySem.W.keepIn K (.ref fm4) = true)
    {fm5 : Addr} {odm5 anm5 : Option Addr} {slm5 : Array (Option Value)} {ocm5 kVm5 dcm5 pmm5 cdm5 ctm5 : Value}
    (am5 : PySem.W.findIn K (.ref TO) "__init__" = some (some (.ref fm5)))
    (im5 : PySem.W.typeIn K (.ref fm5) = some (.type "function"))
    (lm5 : K.lookup fm5 = some ⟨ocm5, odm5, .func (PySem.W.fnOf "__init__" "TwoElse.__init__" (defArgs s_xtwo) (defBody s_xtwo) (defScope s_xtwo) .none kVm5 dcm5 pmm5 anm5 cdm5 ctm5), slm5⟩)
    (cm5 : PySem.W.codeIn K cdm5 "TwoElse.__init__" = true) (km5 : PySem.W.keepIn K (.ref fm5) = true)
    (pgC : PySem.W.plainGet K C Str.empty = true) (hdC : PySem.W.hasDictIn K C = true) (poC : PySem.W.plainOver K C = true) (saC : PySem.W.findIn K (.ref C) "__setattr__" = some (some (.builtin "object.__setattr__"))) (mkC : PySem.W.makesIn K C = true) (kcC : PySem.W.keepIn K (.ref C) = true)
    (nPl : PySem.W.findIn K (.ref C) "_places" = some none) (nUs : PySem.W.findIn K (.ref C) "_used" = some none)
    (iCa : PySem.W.findIn K (.ref C) "__class__" = some (some (.builtin "object.__class__"))) (iCm : PySem.W.mroIn K C (.type "object") = some true) (iCc : PySem.W.kitOne K (.ref C) (.ref C) = some true) (iCl : PySem.W.kitOne K (.ref C) (.type "list") = some false) (iCt : PySem.W.kitOne K (.ref C) (.type "tuple") = some false)
    {nmW qW : Str} {NW : Addr} {bsW bmW : List Value} {snW : List Str} {subW : List Value} {abW : Bool} {colW : Option Bool} {ddW : Option Addr} {m0W m1W m2W m3W m5W : Option Value}
    (xW : K.lookup W = some (excClassObj nmW qW W NW bsW bmW true snW subW abW colW ddW m0W m1W m2W m3W m5W "ValueError.__new__")) (vW : PySem.HandSPX.refsVE bmW = true)
    (saW : PySem.W.findIn K (.ref W) "__setattr__" = some (some (.builtin "object.__setattr__"))) (exW : PySem.W.subIn K (.ref W) (.type "BaseException") = some true) (tyW : PySem.W.typeIn K (.ref W) = some (.type "type")) (kW : PySem.W.keepIn K (.ref W) = true)
    (gaW : PySem.W.findIn K (.ref W) "__getattribute__" = some (some (.builtin "BaseException.__getattribute__"))) (ggW : PySem.W.findIn K (.ref W) "__getattr__" = some none) (hdW : PySem.W.hasDictIn K W = true)
    (clW : PySem.W.findIn K (.ref W) "__class__" = some (some (.builtin "object.__class__"))) (moW : PySem.W.mroIn K W (.type "object") = some true) (sBW : PySem.W.subIn K (.ref W) (.ref B) = some true)
    (nFW : PySem.W.findIn K (.ref W) "place" = some none)
    {nmNP qNP : Str} {NNP : Addr} {bsNP bmNP : List Value} {snNP : List Str} {subNP : List Value} {abNP : Bool} {colNP : Option Bool} {ddNP : Option Addr} {m0NP m1NP m2NP m3NP m5NP : Option Value}
    (xNP : K.lookup NP = some (excClassObj nmNP qNP NP NNP bsNP bmNP true snNP subNP abNP colNP ddNP m0NP m1NP m2NP m3NP m5NP "ValueError.__new__")) (vNP : PySem.HandSPX.refsVE bmNP = true)
    (saNP : PySem.W.findIn K (.ref NP) "__setattr__" = some (some (.builtin "object.__setattr__"))) (exNP : PySem.W.subIn K (.ref NP) (.type "BaseException") = some true) (tyNP : PySem.W.typeIn K (.ref NP) = some (.type "type")) (kNP : PySem.W.keepIn K (.ref NP) = true)
    (gaNP : PySem.W.findIn K (.ref NP) "__getattribute__" = some (some (.builtin "BaseException.__getattribute__"))) (ggNP : PySem.W.findIn K (.ref NP) "__getattr__" = some none) (hdNP : PySem.W.hasDictIn K NP = true)
    (clNP : PySem.W.findIn K (.ref NP) "__class__" = some (some (.builtin "object.__class__"))) (moNP : PySem.W.mroIn K NP (.type "object") = some true) (sBNP : PySem.W.subIn K (.ref NP) (.ref B) = some true)
    (nFNP : PySem.W.findIn K (.ref NP) "place" = some none)
    {nmTO qTO : Str} {NTO : Addr} {bsTO bmTO : List Value} {snTO : List Str} {subTO : List Value} {abTO : Bool} {colTO : Option Bool} {ddTO : Option Addr} {m0TO m1TO m2TO m3TO m5TO : Option Value}
    (xTO : K.lookup TO = some (excClassObj nmTO qTO TO NTO bsTO bmTO true snTO subTO abTO colTO ddTO m0TO m1TO m2TO m3TO m5TO "ValueError.__new__")) (vTO : PySem.HandSPX.refsVE bmTO = true)
    (saTO : PySem.W.findIn K (.ref TO) "__setattr__" = some (some (.builtin "object.__setattr__"))) (exTO : PySem.W.subIn K (.ref TO) (.type "BaseException") = some true) (tyTO : PySem.W.typeIn K (.ref TO) = some (.type "type")) (kTO : PySem.W.keepIn K (.ref TO) = true)
    (gaTO : PySem.W.findIn K (.ref TO) "__getattribute__" = some (some (.builtin "BaseException.__getattribute__"))) (ggTO : PySem.W.findIn K (.ref TO) "__getattr__" = some none) (hdTO : PySem.W.hasDictIn K TO = true)
    (clTO : PySem.W.findIn K (.ref TO) "__class__" = some (some (.builtin "object.__class__"))) (moTO : PySem.W.mroIn K TO (.type "object") = some true) (sBTO : PySem.W.subIn K (.ref TO) (.ref B) = some true)
    (nFTO : PySem.W.findIn K (.ref TO) "place" = some none)
    (exB : PySem.W.subIn K (.ref B) (.type "BaseException") = some true) (hdB : PySem.W.hasDictIn K B = true) (tyB : PySem.W.typeIn K (.ref B) = some (.type "type"))
    (ocg : PySem.W.specialIn K (.builtin "object.__class__") "__get__" = some (some (.builtin "getset_descriptor.__get__"))) (oct : PySem.W.takesIn K (.builtin "object.__class__") = some true)
    (k_W_W : PySem.W.kitOne K (.ref W) (.ref W) = some true)
    (k_W_NP : PySem.W.kitOne K (.ref W) (.ref NP) = some false)
    (k_W_TO : PySem.W.kitOne K (.ref W) (.ref TO) = some false)
    (k_NP_W : PySem.W.kitOne K (.ref NP) (.ref W) = some false)
    (k_NP_NP : PySem.W.kitOne K (.ref NP) (.ref NP) = some true)
    (k_NP_TO : PySem.W.kitOne K (.ref NP) (.ref TO) = some false)
    (k_TO_W : PySem.W.kitOne K (.ref TO) (.ref W) = some false)
    (k_TO_NP : PySem.W.kitOne K (.ref TO) (.ref NP) = some false)
    (k_TO_TO : PySem.W.kitOne K (.ref TO) (.ref TO) = some true)
    {tl0 tn0 : Tok} {aW aM : Addr} (gLet : PySem.W.nsIn K mainGlobals "LETTERS" = some (some (.str abc tl0))) (gLong : PySem.W.nsIn K mainGlobals "LONGEST" = some (some (.int 8 tn0))) (gW : PySem.W.nsIn K mainGlobals "WORDS" = some (some (.ref aW))) (gM : PySem.W.nsIn K mainGlobals "MODES" = some (some (.ref aM)))
    {odW : Option Addr} {t1 t2 t3 t4 : Tok} {nW : Nat} {slW : Array (Option Value)} (lW : K.lookup aW = some ⟨.type "tuple", odW, .seq #[.str "close" t1, .str "ended" t2, .str "send" t3, .str "take" t4] nW, slW⟩)
    {odM : Option Addr} {t5 t6 : Tok} {nM : Nat} {slM : Array (Option Value)} (lM : K.lookup aM = some ⟨.type "tuple", odM, .seq #[.str "any" t5, .str "first" t6] nM, slM⟩)
    (z_len : PySem.W.nsIn K mainGlobals "len" = some none)
    (z_int : PySem.W.nsIn K mainGlobals "int" = some none)
    (z_abs : PySem.W.nsIn K mainGlobals "abs" = some none)
    (z_range : PySem.W.nsIn K mainGlobals "range" = some none)
    (z_repr : PySem.W.nsIn K mainGlobals "repr" = some none)
    (z_isinstance : PySem.W.nsIn K mainGlobals "isinstance" = some none)
    (z_all : PySem.W.nsIn K mainGlobals "all" = some none)
    (z_tuple : PySem.W.nsIn K mainGlobals "tuple" = some none)
    (z_list : PySem.W.nsIn K mainGlobals "list" = some none)
    (z_str : PySem.W.nsIn K mainGlobals "str" = some none)
    (z_bool : PySem.W.nsIn K mainGlobals "bool" = some none)
    (z_dict : PySem.W.nsIn K mainGlobals "dict" = some none)
    (z_sorted : PySem.W.nsIn K mainGlobals "sorted" = some none)
    (z_enumerate : PySem.W.nsIn K mainGlobals "enumerate" = some none)
    (z_set : PySem.W.nsIn K mainGlobals "set" = some none)
    : ∃ fd : FuncData, (∀ (s : Shared) (v : Value), BindsTo s fd ⟨[v], []⟩ [("_law_script", v)]) ∧ ∀ base : Heap, K.In base → base.Ns mainGlobals mg → FnG l.prog w K mg base 12 fa fd ["_law_script"] (spLaw K) := by
  have e := hfa.symm.trans (PySem.W.mg_of X G a20)
  cases e
  have F0 := fun_mk (st := s_is_integer) l0 c0 k0
  have b0 := F0.binds (ps := ["thing"]) fun _ _ _ _ _ _ us hl => match us, hl with | [_], _ => rfl
  have g0 := PySem.W.mg_of X G a0
  have F1 := fun_mk (st := s_is_number) l1 c1 k1
  have b1 := F1.binds (ps := ["thing"]) fun _ _ _ _ _ _ us hl => match us, hl with | [_], _ => rfl
  have g1 := PySem.W.mg_of X G a1
  have F2 := fun_mk (st := s_is_name) l2 c2 k2
  have b2 := F2.binds (ps := ["thing"]) fun _ _ _ _ _ _ us hl => match us, hl with | [_], _ => rfl
  have g2 := PySem.W.mg_of X G a2
  have F3 := fun_mk (st := s_is_word) l3 c3 k3
  have b3 := F3.binds (ps := ["thing"]) fun _ _ _ _ _ _ us hl => match us, hl with | [_], _ => rfl
  have g3 := PySem.W.mg_of X G a3
  have F4 := fun_mk (st := s_mode) l4 c4 k4
  have b4 := F4.binds (ps := ["thing"]) fun _ _ _ _ _ _ us hl => match us, hl with | [_], _ => rfl
  have g4 := PySem.W.mg_of X G a4
  have F5 := fun_mk (st := s_is_arm) l5 c5 k5
  have b5 := F5.binds (ps := ["thing"]) fun _ _ _ _ _ _ us hl => match us, hl with | [_], _ => rfl
  have g5 := PySem.W.mg_of X G a5
  have F6 := fun_mk (st := s_row) l6 c6 k6
  have b6 := F6.binds (ps := ["thing", "is_part"]) fun _ _ _ _ _ _ us hl => match us, hl with | [_, _], _ => rfl
  have g6 := PySem.W.mg_of X G a6
  have F7 := fun_mk (st := s_place) l7 c7 k7
  have b7 := F7.binds (ps := ["thing"]) fun _ _ _ _ _ _ us hl => match us, hl with | [_], _ => rfl
  have g7 := PySem.W.mg_of X G a7
  have F8 := fun_mk (st := s_else) l8 c8 k8
  have b8 := F8.binds (ps := ["arm"]) fun _ _ _ _ _ _ us hl => match us, hl with | [_], _ => rfl
  have g8 := PySem.W.mg_of X G a8
  have F9 := fun_mk (st := s__law_bag) l9 c9 k9
  have b9 := F9.binds (ps := ["_law_script"]) fun _ _ _ _ _ _ us hl => match us, hl with | [_], _ => rfl
  have g9 := PySem.W.mg_of X G a9
  have F10 := fun_mk (st := s__law_take) l10 c10 k10
  have b10 := F10.binds (ps := ["_law_bag_here", "_law_many"]) fun _ _ _ _ _ _ us hl => match us, hl with | [_, _], _ => rfl
  have g10 := PySem.W.mg_of X G a10
  have F11 := fun_mk (st := s__law_names) l11 c11 k11
  have b11 := F11.binds (ps := ["_law_bag_here", "_law_many"]) fun _ _ _ _ _ _ us hl => match us, hl with | [_, _], _ => rfl
  have g11 := PySem.W.mg_of X G a11
  have F12 := fun_mk (st := s__law_is_name) l12 c12 k12
  have b12 := F12.binds (ps := ["_law_thing"]) fun _ _ _ _ _ _ us hl => match us, hl with | [_], _ => rfl
  have g12 := PySem.W.mg_of X G a12
  have F13 := fun_mk (st := s__law_is_integer) l13 c13 k13
  have b13 := F13.binds (ps := ["_law_thing"]) fun _ _ _ _ _ _ us hl => match us, hl with | [_], _ => rfl
  have g13 := PySem.W.mg_of X G a13
  have F14 := fun_mk (st := s__law_odd) l14 c14 k14
  have b14 := F14.binds (ps := ["_law_bag_here", "_law_name"]) fun _ _ _ _ _ _ us hl => match us, hl with | [_, _], _ => rfl
  have g14 := PySem.W.mg_of X G a14
  have F15 := fun_mk (st := s__law_arm) l15 c15 k15
  have b15 := F15.binds (ps := ["_law_bag_here", "_law_names_here", "_law_places"]) fun _ _ _ _ _ _ us hl => match us, hl with | [_, _, _], _ => rfl
  have g15 := PySem.W.mg_of X G a15
  have F16 := fun_mk (st := s__law_bent) l16 c16 k16
  have b16 := F16.binds (ps := ["_law_bag_here", "_law_arm_here", "_law_name"]) fun _ _ _ _ _ _ us hl => match us, hl with | [_, _, _], _ => rfl
  have g16 := PySem.W.mg_of X G a16
  have F17 := fun_mk (st := s__law_is_arm) l17 c17 k17
  have b17 := F17.binds (ps := ["_law_thing"]) fun _ _ _ _ _ _ us hl => match us, hl with | [_], _ => rfl
  have g17 := PySem.W.mg_of X G a17
  have F18 := fun_mk (st := s__law_due) l18 c18 k18
  have b18 := F18.binds (ps := ["_law_thing"]) fun _ _ _ _ _ _ us hl => match us, hl with | [_], _ => rfl
  have g18 := PySem.W.mg_of X G a18
  have F19 := fun_mk (st := s_told) l19 c19 k19
  have b19 := F19.binds (ps := ["_law_thing"]) fun _ _ _ _ _ _ us hl => match us, hl with | [_], _ => rfl
  have g19 := PySem.W.mg_of X G a19
  have F20 := fun_mk (st := s_law) l20 c20 k20
  have Fm0 := fun_mk (st := (cP 0)) lm0 cm0 km0
  have bm0 := Fm0.binds (ps := ["self", "places"]) fun _ _ _ _ _ _ us hl => match us, hl with | [_, _], _ => rfl
  have Fm1 := fun_mk (st := (cP 1)) lm1 cm1 km1
  have bm1 := Fm1.binds (ps := ["self"]) fun _ _ _ _ _ _ us hl => match us, hl with | [_], _ => rfl
  have Fm2 := fun_mk (st := (cP 7)) lm2 cm2 km2
  have bm2 := Fm2.binds (ps := ["self"]) fun _ _ _ _ _ _ us hl => match us, hl with | [_], _ => rfl
  have Fm3 := fun_mk (st := s_xwrong) lm3 cm3 km3
  have bm3 := Fm3.binds (ps := ["self", "place"]) fun _ _ _ _ _ _ us hl => match us, hl with | [_, _], _ => rfl
  have Fm4 := fun_mk (st := s_xplace) lm4 cm4 km4
  have bm4 := Fm4.binds (ps := ["self", "place"]) fun _ _ _ _ _ _ us hl => match us, hl with | [_, _], _ => rfl
  have Fm5 := fun_mk (st := s_xtwo) lm5 cm5 km5
  have bm5 := Fm5.binds (ps := ["self", "place"]) fun _ _ _ _ _ _ us hl => match us, hl with | [_, _], _ => rfl
  have T : BT mg := ⟨PySem.W.mg_none_of X G z_len, PySem.W.mg_none_of X G z_int, PySem.W.mg_none_of X G z_abs, PySem.W.mg_none_of X G z_range, PySem.W.mg_none_of X G z_repr, PySem.W.mg_none_of X G z_isinstance, PySem.W.mg_none_of X G z_all, PySem.W.mg_none_of X G z_tuple, PySem.W.mg_none_of X G z_list, PySem.W.mg_none_of X G z_str, PySem.W.mg_none_of X G z_bool, PySem.W.mg_none_of X G z_dict, PySem.W.mg_none_of X G z_sorted⟩
  have L : PT K mg C := ⟨⟨pgC, hdC, poC, saC⟩, nPl, nUs, PySem.W.mg_of X G aGC, PySem.W.mg_none_of X G z_enumerate⟩
  have IC : IsP K C := ⟨iCa, ocg, oct, iCm, iCc⟩
  have NT : NoT K C := ⟨⟨pgC, hdC, poC, saC⟩, IC, iCl, iCt⟩
  have TW : XT K mg "Wrong" "place" W := ⟨PySem.W.mg_of X G aGW, ⟨⟨_, _, _, _, _, _, _, _, _, _, _, _, _, _, _, xW, vW⟩, saW, exW, tyW, kW⟩, ⟨gaW, ggW, exW, hdW⟩, nFW⟩
  have TNP : XT K mg "NoPlace" "place" NP := ⟨PySem.W.mg_of X G aGNP, ⟨⟨_, _, _, _, _, _, _, _, _, _, _, _, _, _, _, xNP, vNP⟩, saNP, exNP, tyNP, kNP⟩, ⟨gaNP, ggNP, exNP, hdNP⟩, nFNP⟩
  have TTO : XT K mg "TwoElse" "place" TO := ⟨PySem.W.mg_of X G aGTO, ⟨⟨_, _, _, _, _, _, _, _, _, _, _, _, _, _, _, xTO, vTO⟩, saTO, exTO, tyTO, kTO⟩, ⟨gaTO, ggTO, exTO, hdTO⟩, nFTO⟩
  have EW : E3 K mg W W NP TO true false false := ⟨⟨B, PySem.W.mg_of X G aGB, PySem.W.exm_ref exB hdB tyB sBW⟩, ⟨gaW, ggW, exW, hdW, clW, ocg, oct, moW⟩, k_W_W, k_W_NP, k_W_TO⟩
  have ENP : E3 K mg NP W NP TO false true false := ⟨⟨B, PySem.W.mg_of X G aGB, PySem.W.exm_ref exB hdB tyB sBNP⟩, ⟨gaNP, ggNP, exNP, hdNP, clNP, ocg, oct, moNP⟩, k_NP_W, k_NP_NP, k_NP_TO⟩
  have ETO : E3 K mg TO W NP TO false false true := ⟨⟨B, PySem.W.mg_of X G aGB, PySem.W.exm_ref exB hdB tyB sBTO⟩, ⟨gaTO, ggTO, exTO, hdTO, clTO, ocg, oct, moTO⟩, k_TO_W, k_TO_NP, k_TO_TO⟩
  have hW : ∀ H, SqT K H aW wordsV := fun H => Or.inr ⟨_, _, _, lW, rfl, rfl, by show 4 ≤ sizeLine; decide, .cons ⟨_, rfl⟩ (.cons ⟨_, rfl⟩ (.cons ⟨_, rfl⟩ (.cons ⟨_, rfl⟩ .nil)))⟩
  have hM : ∀ H, SqT K H aM modesV := fun H => Or.inr ⟨_, _, _, lM, rfl, rfl, by show 2 ≤ sizeLine; decide, .cons ⟨_, rfl⟩ (.cons ⟨_, rfl⟩ .nil)⟩
  refine ⟨PySem.W.fnOf "law" "law" (defArgs s_law) (defBody s_law) (defScope s_law) .none kV20 dc20 pm20 an20 cd20 ct20, fun s v => .of_eq rfl, fun base _ _ => ?_⟩
  have C1 : Ca l.prog w K mg base 1 "is_integer" ["thing"] (spPred Any isIntD) := ⟨_, _, ok_is_integer F0 T, g0, k0, b0⟩
  have C2 : Ca l.prog w K mg base 2 "is_number" ["thing"] (spPred Any isNumD) := ⟨_, _, ok_is_number F1 C1, g1, k1, b1⟩
  have C3 : Ca l.prog w K mg base 1 "is_name" ["thing"] (spPred Ok1 isNameD) := ⟨_, _, ok_is_name F2 T (PySem.W.mg_of X G gLet) (PySem.W.mg_of X G gLong), g2, k2, b2⟩
  have CW : Ca l.prog w K mg base 1 "is_word" ["thing"] (spPred Any isWordD) := ⟨_, _, ok_is_word F3 T (PySem.W.mg_of X G gW) hW, g3, k3, b3⟩
  have CMd : Ca l.prog w K mg base 1 "is_mode" ["thing"] (spAns RMode) := ⟨_, _, ok_modeA F4 T (PySem.W.mg_of X G gM) hM, g4, k4, b4⟩
  have okA := ok_armA (ok_is_arm (P := l.prog) (w := w) (base := base) F5 T C2 C3 CW)
  have CRA : Ca l.prog w K mg base 4 "is_row_of" ["thing", "is_part"] (spRowA C RArm f5) := ⟨_, _, ok_rowA RArm.up F6 T NT okA k5 b5, g6, k6, b6⟩
  have okP := ok_placeA (P := l.prog) (w := w) (base := base) F7 T NT g5 CMd CRA
  have CRP : Ca l.prog w K mg base 6 "is_row_of" ["thing", "is_part"] (spRowA C (RPlace C) f7) := ⟨_, _, ok_rowA RPlace.up F6 T NT okP k7 b7, g6, k6, b6⟩
  have CE : Ca l.prog w K mg base 1 "is_else" ["arm"] (spElse) := ⟨_, _, ok_else F8 T, g8, k8, b8⟩
  have IW : XI l.prog w K mg base "place" W := ⟨_, _, ok_xwrong Fm3 TW, am3, im3, bm3⟩
  have INP : XI l.prog w K mg base "place" NP := ⟨_, _, ok_xplace Fm4 TNP, am4, im4, bm4⟩
  have ITO : XI l.prog w K mg base "place" TO := ⟨_, _, ok_xtwo Fm5 TTO, am5, im5, bm5⟩
  have MC : CmN l.prog w K mg base C 3 "_check" ["self"] (spCheckX C NP TO) := ⟨_, _, ok_checkX Fm1 T L CE TNP INP TTO ITO, ⟨am1, im1, km1⟩, bm1⟩
  have MK : MkX l.prog w K mg base C W NP TO := ⟨_, _, ok_initX Fm0 T L g7 CRP CE MC TW IW, ⟨mkC, am0, im0, kcC⟩, bm0⟩
  have MPs : Cm l.prog w K mg base C 1 "places" ["self"] (spPls C) := ⟨_, _, ok_pls Fm2 T L, ⟨am2, im2, km2⟩, bm2⟩
  have CB : Ca l.prog w K mg base 1 "_law_bag" ["_law_script"] (spBag K) := ⟨_, _, hideBag (ok_bag F9 T), g9, k9, b9⟩
  have CT : Ca l.prog w K mg base 1 "_law_take" ["_law_bag_here", "_law_many"] (spTake) := ⟨_, _, hide (ok_take F10 T), g10, k10, b10⟩
  have CN : Ca l.prog w K mg base 2 "_law_names" ["_law_bag_here", "_law_many"] (spNames) := ⟨_, _, ok_names F11 T CT, g11, k11, b11⟩
  have C6 : Ca l.prog w K mg base 1 "_law_is_name" ["_law_thing"] (spPred Ok1 isNameD) := ⟨_, _, ok_law_is_name F12 T, g12, k12, b12⟩
  have C7 : Ca l.prog w K mg base 1 "_law_is_integer" ["_law_thing"] (spPred Any isIntD) := ⟨_, _, ok_law_is_integer F13 T, g13, k13, b13⟩
  have CO : Ca l.prog w K mg base 2 "_law_odd" ["_law_bag_here", "_law_name"] (spOdd) := ⟨_, _, ok_odd F14 T CT, g14, k14, b14⟩
  have CAr : Ca l.prog w K mg base 2 "_law_arm" ["_law_bag_here", "_law_names_here", "_law_places"] (spArm) := ⟨_, _, ok_arm F15 T CT, g15, k15, b15⟩
  have CBe : Ca l.prog w K mg base 3 "_law_bent" ["_law_bag_here", "_law_arm_here", "_law_name"] (spBent) := ⟨_, _, ok_bent F16 T CT CO, g16, k16, b16⟩
  have CIA : Ca l.prog w K mg base 2 "_law_is_arm" ["_law_thing"] (spPred OkT isArmD) := ⟨_, _, ok_law_is_arm F17 T C6 C7, g17, k17, b17⟩
  have CDu : Ca l.prog w K mg base 3 "_law_due" ["_law_thing"] (spDue) := ⟨_, _, ok_due F18 T CIA, g18, k18, b18⟩
  have CTo : Ca l.prog w K mg base 11 "_law_told" ["_law_thing"] (spTold C) := ⟨_, _, ok_told F19 T L TW TNP TTO EW ENP ETO MK MPs, g19, k19, b19⟩
  exact ok_law F20 T L CB CT CN CO CAr CBe CDu CTo MK
end K22
open PySem PySem.W PyProof.Rows
set_option maxRecDepth 100000 in
set_option maxHeartbeats 0 in
theorem PySem.Challenge.cw_openlanes_k22_programs_refused_holds : PySem.Challenge.rw_openlanes_k22_programs_refused.Holds := by
  w_on; o_law; k_head; (case hw => w_witness2)
  k_fill
  refine Ol.walkG (l := PySem.Challenge.rw_openlanes_k22_programs_refused) (n := 63) (k := 12) (x := "_law_script") (sp := fun w => K22.spLaw _) rfl (by rfl) (by decide) rfl ⟨rfl, by decide, by decide⟩ (fun w h Y => PySem.W.kIn_of Y) (fun w => by rfl) ?F (fun w H a ns hl hS hL => ⟨a, ns, rfl, hS, hL, hl, fun _ => rfl⟩)
  case F =>
    intro w mg fa h KX G hmg
    refine' K22.all_mk KX G hmg ?a0 ?l0 ?c0 ?k0 ?a1 ?l1 ?c1 ?k1 ?a2 ?l2 ?c2 ?k2 ?a3 ?l3 ?c3 ?k3 ?a4 ?l4 ?c4 ?k4 ?a5 ?l5 ?c5 ?k5 ?a6 ?l6 ?c6 ?k6 ?a7 ?l7 ?c7 ?k7 ?a8 ?l8 ?c8 ?k8 ?a9 ?l9 ?c9 ?k9 ?a10 ?l10 ?c10 ?k10 ?a11 ?l11 ?c11 ?k11 ?a12 ?l12 ?c12 ?k12 ?a13 ?l13 ?c13 ?k13 ?a14 ?l14 ?c14 ?k14 ?a15 ?l15 ?c15 ?k15 ?a16 ?l16 ?c16 ?k16 ?a17 ?l17 ?c17 ?k17 ?a18 ?l18 ?c18 ?k18 ?a19 ?l19 ?c19 ?k19 ?a20 ?l20 ?c20 ?k20 ?aGC ?aGW ?aGNP ?aGTO ?aGB ?am0 ?im0 ?lm0 ?cm0 ?km0 ?am1 ?im1 ?lm1 ?cm1 ?km1 ?am2 ?im2 ?lm2 ?cm2 ?km2 ?am3 ?im3 ?lm3 ?cm3 ?km3 ?am4 ?im4 ?lm4 ?cm4 ?km4 ?am5 ?im5 ?lm5 ?cm5 ?km5 ?pgC ?hdC ?poC ?saC ?mkC ?kcC ?nPl ?nUs ?iCa ?iCm ?iCc ?iCl ?iCt ?xW ?vW ?saW ?exW ?tyW ?kW ?gaW ?ggW ?hdW ?clW ?moW ?sBW ?nFW ?xNP ?vNP ?saNP ?exNP ?tyNP ?kNP ?gaNP ?ggNP ?hdNP ?clNP ?moNP ?sBNP ?nFNP ?xTO ?vTO ?saTO ?exTO ?tyTO ?kTO ?gaTO ?ggTO ?hdTO ?clTO ?moTO ?sBTO ?nFTO ?exB ?hdB ?tyB ?ocg ?oct ?k_W_W ?k_W_NP ?k_W_TO ?k_NP_W ?k_NP_NP ?k_NP_TO ?k_TO_W ?k_TO_NP ?k_TO_TO ?gLet ?gLong ?gW ?gM ?lW ?lM ?z_len ?z_int ?z_abs ?z_range ?z_repr ?z_isinstance ?z_all ?z_tuple ?z_list ?z_str ?z_bool ?z_dict ?z_sorted ?z_enumerate ?z_set
    (case a0 => k_is)
    (case l0 => k_is)
    (case c0 => k_is)
    (case k0 => k_is)
    (case a1 => k_is)
    (case l1 => k_is)
    (case c1 => k_is)
    (case k1 => k_is)
    (case a2 => k_is)
    (case l2 => k_is)
    (case c2 => k_is)
    (case k2 => k_is)
    (case a3 => k_is)
    (case l3 => k_is)
    (case c3 => k_is)
    (case k3 => k_is)
    (case a4 => k_is)
    (case l4 => k_is)
    (case c4 => k_is)
    (case k4 => k_is)
    (case a5 => k_is)
    (case l5 => k_is)
    (case c5 => k_is)
    (case k5 => k_is)
    (case a6 => k_is)
    (case l6 => k_is)
    (case c6 => k_is)
    (case k6 => k_is)
    (case a7 => k_is)
    (case l7 => k_is)
    (case c7 => k_is)
    (case k7 => k_is)
    (case a8 => k_is)
    (case l8 => k_is)
    (case c8 => k_is)
    (case k8 => k_is)
    (case a9 => k_is)
    (case l9 => k_is)
    (case c9 => k_is)
    (case k9 => k_is)
    (case a10 => k_is)
    (case l10 => k_is)
    (case c10 => k_is)
    (case k10 => k_is)
    (case a11 => k_is)
    (case l11 => k_is)
    (case c11 => k_is)
    (case k11 => k_is)
    (case a12 => k_is)
    (case l12 => k_is)
    (case c12 => k_is)
    (case k12 => k_is)
    (case a13 => k_is)
    (case l13 => k_is)
    (case c13 => k_is)
    (case k13 => k_is)
    (case a14 => k_is)
    (case l14 => k_is)
    (case c14 => k_is)
    (case k14 => k_is)
    (case a15 => k_is)
    (case l15 => k_is)
    (case c15 => k_is)
    (case k15 => k_is)
    (case a16 => k_is)
    (case l16 => k_is)
    (case c16 => k_is)
    (case k16 => k_is)
    (case a17 => k_is)
    (case l17 => k_is)
    (case c17 => k_is)
    (case k17 => k_is)
    (case a18 => k_is)
    (case l18 => k_is)
    (case c18 => k_is)
    (case k18 => k_is)
    (case a19 => k_is)
    (case l19 => k_is)
    (case c19 => k_is)
    (case k19 => k_is)
    (case a20 => k_is)
    (case l20 => k_is)
    (case c20 => k_is)
    (case k20 => k_is)
    (case aGC => k_is)
    (case aGW => k_is)
    (case aGNP => k_is)
    (case aGTO => k_is)
    (case aGB => k_is)
    (case am0 => k_is)
    (case im0 => k_is)
    (case lm0 => k_is)
    (case cm0 => k_is)
    (case km0 => k_is)
    (case am1 => k_is)
    (case im1 => k_is)
    (case lm1 => k_is)
    (case cm1 => k_is)
    (case km1 => k_is)
    (case am2 => k_is)
    (case im2 => k_is)
    (case lm2 => k_is)
    (case cm2 => k_is)
    (case km2 => k_is)
    (case am3 => k_is)
    (case im3 => k_is)
    (case lm3 => k_is)
    (case cm3 => k_is)
    (case km3 => k_is)
    (case am4 => k_is)
    (case im4 => k_is)
    (case lm4 => k_is)
    (case cm4 => k_is)
    (case km4 => k_is)
    (case am5 => k_is)
    (case im5 => k_is)
    (case lm5 => k_is)
    (case cm5 => k_is)
    (case km5 => k_is)
    (case pgC => k_is)
    (case hdC => k_is)
    (case poC => k_is)
    (case saC => k_is)
    (case mkC => k_is)
    (case kcC => k_is)
    (case nPl => k_is)
    (case nUs => k_is)
    (case iCa => first | k_is | rfl | decide +kernel)
    (case iCm => first | k_is | rfl | decide +kernel)
    (case iCc => first | k_is | rfl | decide +kernel)
    (case iCl => first | k_is | rfl | decide +kernel)
    (case iCt => first | k_is | rfl | decide +kernel)
    (case xW => first | k_is | rfl | decide +kernel)
    (case vW => first | k_is | rfl | decide +kernel)
    (case saW => k_is)
    (case exW => k_is)
    (case tyW => k_is)
    (case kW => k_is)
    (case gaW => k_is)
    (case ggW => k_is)
    (case hdW => k_is)
    (case clW => k_is)
    (case moW => k_is)
    (case sBW => k_is)
    (case nFW => k_is)
    (case xNP => first | k_is | rfl | decide +kernel)
    (case vNP => first | k_is | rfl | decide +kernel)
    (case saNP => k_is)
    (case exNP => k_is)
    (case tyNP => k_is)
    (case kNP => k_is)
    (case gaNP => k_is)
    (case ggNP => k_is)
    (case hdNP => k_is)
    (case clNP => k_is)
    (case moNP => k_is)
    (case sBNP => k_is)
    (case nFNP => k_is)
    (case xTO => first | k_is | rfl | decide +kernel)
    (case vTO => first | k_is | rfl | decide +kernel)
    (case saTO => k_is)
    (case exTO => k_is)
    (case tyTO => k_is)
    (case kTO => k_is)
    (case gaTO => k_is)
    (case ggTO => k_is)
    (case hdTO => k_is)
    (case clTO => k_is)
    (case moTO => k_is)
    (case sBTO => k_is)
    (case nFTO => k_is)
    (case exB => k_is)
    (case hdB => k_is)
    (case tyB => k_is)
    (case ocg => k_is)
    (case oct => k_is)
    (case k_W_W => first | k_is | rfl | decide +kernel)
    (case k_W_NP => first | k_is | rfl | decide +kernel)
    (case k_W_TO => first | k_is | rfl | decide +kernel)
    (case k_NP_W => first | k_is | rfl | decide +kernel)
    (case k_NP_NP => first | k_is | rfl | decide +kernel)
    (case k_NP_TO => first | k_is | rfl | decide +kernel)
    (case k_TO_W => first | k_is | rfl | decide +kernel)
    (case k_TO_NP => first | k_is | rfl | decide +kernel)
    (case k_TO_TO => first | k_is | rfl | decide +kernel)
    (case gLet => k_is)
    (case gLong => k_is)
    (case gW => k_is)
    (case gM => k_is)
    (case lW => k_is)
    (case lM => k_is)
    (case z_len => k_is)
    (case z_int => k_is)
    (case z_abs => k_is)
    (case z_range => k_is)
    (case z_repr => k_is)
    (case z_isinstance => k_is)
    (case z_all => k_is)
    (case z_tuple => k_is)
    (case z_list => k_is)
    (case z_str => k_is)
    (case z_bool => k_is)
    (case z_dict => k_is)
    (case z_sorted => k_is)
    (case z_enumerate => k_is)
    (case z_set => k_is)

