import PyProof.Rows.All
import Wide.All
import OpenK.AllK
import Wide.FinOn
import HandS.ForMost
import HandS.Exc
import HandS.ExcOwn
import HandS.TryOnly
import HandS.WordsExc
import HandS.IsInst
import HandS.TupAny
import HandS.Wide
import HandS.TryMany
import KE.DataCmp
import KE.SortData
import HandS.Deep
import HandS.TupSets
import HandS.Zip
import HandS.Defaults
import PySem.Challenge.RW_looksfar_k04_all_views
set_option Elab.async false
set_option linter.all false
set_option maxRecDepth 100000
set_option maxHeartbeats 400000
/-! ### defs that are called where no repr runs around (guards known to be none) -/
namespace LG
open PySem PySem.Spec PyProof.Rows L2
/-- a def's promise, kept wherever no repr is under way -/
structure FnG (P : Program) (w : World) (K : PySem.W.Frag) (mg : Str → Option Value) (base : Heap) (k : Nat) (f : Addr) (fd : FuncData) (ps : List Str) (sp : Sp) : Prop where
  many : ∀ vs H Q E, sp vs H Q E → vs.length = ps.length
  goes : ∀ (A : Around) (outer : List Env) (s : Shared) (H : Hp) (us : List Value) (vs : List V) (Q : VK) (E : XK), A.guards = some [] → Room k A → Env0 P w K mg base A outer s H →
    BindsTo s fd ⟨us, []⟩ (ps.zip us) → Vals vs us → sp vs H Q E → codeAny (model P w) A (.call (.ref f) ⟨us, []⟩) (CR CX0 outer P w H s Q E) s
section
variable {P : Program} {w : World} {K : PySem.W.Frag} {mg : Str → Option Value} {base : Heap}
theorem FnG.of {k : Nat} {f : Addr} {fd : FuncData} {ps : List Str} {sp : Sp} (F : FnOk P w K mg base CX0 k f fd ps sp) : FnG P w K mg base k f fd ps sp :=
  ⟨F.len, fun A outer s H us vs Q E _ hr e0 hb r h => F.run A outer s H ⟨us, []⟩ us vs Q E hr e0 hb r h⟩
theorem FnG.more {j k : Nat} {f : Addr} {fd : FuncData} {ps : List Str} {sp : Sp} (F : FnG P w K mg base j f fd ps sp) (h : j ≤ k) : FnG P w K mg base k f fd ps sp :=
  ⟨F.many, fun A outer s H us vs Q E hg hr => F.goes A outer s H us vs Q E hg (hr.mono h)⟩
theorem FnG.by {x qual : Str} {st : Stmt} {f : Addr} {fd : FuncData} {N ps : List Str} {k : Nat} {sp : Sp} (F : Fun K x qual st f fd) (S : FnScope N ps (defScope st)) (many : ∀ vs H Q E, sp vs H Q E → vs.length = ps.length)
    (body : ∀ (cdv : Value) (A : Around) (outer : List Env) (s : Shared) (H : Hp) (vs : List V) (Q : VK) (E : XK), (A.deeper (envOfC qual (defScope st) s.heap.objs.size f cdv)).guards = some [] →
      Room k (A.deeper (envOfC qual (defScope st) s.heap.objs.size f cdv)) → sp vs H Q E →
      ∃ t, PSs (cxOf CX0 P w K mg base N qual (defScope st) f cdv A outer s H E).nox (defBody st) t ∧ t { nx := fun _ H' => Q .non H', rt := Q } (start N vs) H) : FnG P w K mg base (k + 1) f fd ps sp := by
  obtain ⟨_, _, _, _, _, _, cdv, _, _, rfl, lk, code⟩ := F.ex
  refine ⟨many, fun A outer s H us vs Q E guard room e0 bind rel hsp => ?_⟩
  have inK : K.In s.heap := e0.mod.kin.keeps fun b o e => (e0.bs b o e).1
  have noLim : s.heap.NoLimit := e0.mod.nolimit.keeps fun b o e => (e0.bs b o e).1
  obtain ⟨t, run, start⟩ := body cdv A outer s H vs Q E guard (room.deeper _) hsp
  refine codeAny_call_function room.depth (inK _ _ lk) rfl S.co S.gen rfl (PySem.W.codeRec_of inK code) (bind _ _ _ _ ?_)
  refine wpAny_newFunctionEnv_cells S.kind (fun y hy => ?_) fun env he s1 made => ?_
  · rcases S.par y.1 (List.of_mem_zip (show (y.1, y.2) ∈ ps.zip us from hy)).1 with q | q
    · exact Or.inl q
    · exact Or.inr ⟨q, PySem.W.cellsFrom_some _ _ _ (Or.inl q)⟩
  subst he
  refine ⟨noLim.keeps made.toInCall.keep, codeAny_func ?_⟩
  have inv := inv_start (CX := CX0) (E := E) S room.hd e0 (many _ _ _ _ hsp) rel made
  refine wpAny_mono (run.nox.run [] s1 (L2.start N vs) H _ inv start) (fun flow s' got => ?_) fun _ _ bad => bad
  cases flow with
  | ret u =>
    obtain ⟨v, _, H', J, rv, q⟩ := got
    exact ⟨v, H', J.os, J.bare, J.base, J.hok, rv, q⟩
  | next =>
    obtain ⟨_, H', J, q⟩ := got
    exact ⟨V.non, H', J.os, J.bare, J.base, J.hok, rfl, q⟩
  | brk =>
    obtain ⟨_, _, _, no⟩ := got
    exact no.elim
  | cont =>
    obtain ⟨_, _, _, no⟩ := got
    exact no.elim
end
section
variable {X : Cx} {k : Nat} {f : Addr} {fd : FuncData} {ps : List Str} {sp : Sp} {x : Str} {p pos : Pos} {e : Expr} {es : List Expr} {t : TA}
/-- f(e, ..) of such a def -/
theorem pe_callG (F : FnG X.prog X.w X.K X.mg X.base k f fd ps sp) (guard : X.A.guards = some []) (room : Room k X.A) (hg : Gl X x) (hm : X.mg x = some (.ref f)) (hk : PySem.W.keepIn X.K (.ref f) = true) (hb : Binds X.K fd ps [])
    (ha : PA X (e :: es) t) (hdb : (x == ("__debug__" : Str)) = false := by decide) (he : starEach (e :: es) X.env = (false, eval e X.env) :: starEach es X.env := by rfl) (hpl : (backTo pos (starEach es X.env)).any (·.1) = false := by rfl) :
    PE X (.Call (.Name x p) (e :: es) [] pos) (tCall sp [] E0 t) := by
  constructor
  intro pins s σ H Q inv want
  refine wpAny_Call_Name_kw (ld_glob inv hg hm ?_ hdb)
  refine PySem.W.callWith_K (h₀ := X.base) inv.ok.mod.kin hk (thn (ha.run pos pins s σ H _ inv want) fun us s1 got => ?_) he hpl
  obtain ⟨vs, H1, inv1, rel, q⟩ := got
  rw [List.append_nil] at q
  have many : us.length = ps.length := by rw [← rel.length]; exact F.many _ _ _ _ q
  have bind := hb s1 us inv1.kIn (by rw [List.append_nil]; exact many)
  rw [List.append_nil] at bind
  refine ⟨inv1.kIn, wpAny_call (codeAny_mono (F.goes X.A X.stack s1 H1 us vs Q E0 guard room inv1.env0 bind rel q) fun r s' end_ => ?_)⟩
  cases r with
  | error _ => exact False.elim end_
  | ok flow =>
    cases flow with
    | ret _ => exact inv1.after end_
    | next => exact False.elim end_
    | brk => exact False.elim end_
    | cont => exact False.elim end_
end
/-! ### repr of data -/
section
variable {X : Cx}
/-- repr(v), v data of any depth: its text -/
def rRep (K : PySem.W.Frag) : List V → Hp → VK → Prop := fun xs H Q => ∃ (v : V) (d : PyData), xs = [v] ∧ Dp K H v d ∧ d.showable = true ∧ d.depth ≤ 60 ∧ d.shown.length ≤ sizeLine ∧ Q (.str d.shown) H
theorem Dp.noDict {K : PySem.W.Frag} {H : Hp} : ∀ (d : PyData) (v : V), Dp K H v d → d.hasDict = false
  | .none, _, _ => by simp only [PyData.hasDict]
  | .bool _, _, _ => by simp only [PyData.hasDict]
  | .int _, _, _ => by simp only [PyData.hasDict]
  | .str _, _, _ => by simp only [PyData.hasDict]
  | .dict _, _, h => by cases h
  | .list ds, _, h => by
    cases h with
    | lst _ ha =>
      simp only [PyData.hasDict]
      exact go ds _ ha
  | .tuple ds, _, h => by
    cases h with
    | tup _ ha =>
      simp only [PyData.hasDict]
      exact go ds _ ha
where go {K : PySem.W.Frag} {H : Hp} : ∀ (ds : List PyData) (vs : List V), DpAll K H vs ds → PyData.hasDictAll ds = false
  | [], _, _ => by simp only [PyData.hasDictAll]
  | d :: ds, _, h => by
    cases h with
    | cons h1 h2 => simp only [PyData.hasDictAll, Dp.noDict d _ h1, go ds _ h2, Bool.or_self]
theorem call_rep (guard : X.A.guards = some []) (room : X.A.units + 64 < cLine) : CallR X (.builtin "repr") (rRep X.K) := by
  intro pins s σ H xs us Q inv rel want
  obtain ⟨v, d, rfl, hd, hs, hn, hz, q⟩ := want
  cases rel with
  | cons r0 rr =>
  rename_i u us'
  cases rr
  obtain ⟨as, reads⟩ := Dp.reads inv d v u hd r0
  have dict := PyData.noDict_hsm (as := as) (Dp.noDict d v hd)
  cases hd with
  | non =>
    cases r0
    exact PySem.P.repr_of_none ⟨.str _, H, inv.tok _, ⟨_, rfl⟩, by simpa only [PyData.shown] using q⟩
  | bl b =>
    cases r0
    refine PySem.P.repr_of_bool ⟨.str _, H, inv.tok _, ⟨_, rfl⟩, by simpa only [PyData.shown] using q⟩
  | int i =>
    obtain ⟨t, rfl⟩ := r0
    exact PySem.P.repr_of_int (by simpa [PyData.showable] using hs) ⟨.str _, H, inv.tok _, ⟨_, rfl⟩, by simpa only [PyData.shown] using q⟩
  | str x =>
    obtain ⟨t, rfl⟩ := r0
    exact PySem.P.repr_of_str ⟨.str _, H, inv.tok _, ⟨_, rfl⟩, by simpa only [PyData.shown] using q⟩ (by simpa only [PyData.shown] using hz)
  | lst h1 h2 =>
    cases r0
    exact repr_of_reads' reads hs dict guard (by omega) (fun _ _ z => z) (fun h' u' tk keep => ⟨.str _, H, inv.kept keep, ⟨_, rfl⟩, q⟩) hz
  | tup h1 h2 =>
    cases r0
    exact repr_of_reads' reads hs dict guard (by omega) (fun _ _ z => z) (fun h' u' tk keep => ⟨.str _, H, inv.kept keep, ⟨_, rfl⟩, q⟩) hz
end
end LG
/-! ### the end: the law's promise, at the heap behind the top -/
namespace LG
open PySem PySem.W PySem.Spec PyProof.Rows L2
section
variable {P : Program} {w : World} {K : PySem.W.Frag} {mg mb : Str → Option Value} {k : Nat} {fa a : Addr} {fd : FuncData} {x : Str} {sp : Sp} {s : Shared} {vs : List Value} {ns : List Int}
/-- the call from an abstract heap that tracks at most the script -/
theorem end_from (inK : K.In s.heap) (mains : s.heap.Ns mainGlobals mg) (blts : s.heap.Ns builtinsNs mb) (boot : ∀ y : Str, y ≠ "__name__" → mb y = bootBuiltins y) (noLim : s.heap.NoLimit) (gens : s.gens = #[])
    (obj : s.heap.get? a = some { cls := .type "list", data := .seq vs.toArray }) (room : Room k callerA) (goesF : ∀ base : Heap, K.In base → base.Ns mainGlobals mg → FnG P w K mg base k fa fd [x] sp)
    (bind : ∀ (s : Shared) (u : Value), BindsTo s fd ⟨[u], []⟩ [(x, u)]) (H : Hp) (only : Only H) (held : HOk P w H s.heap) (alone : ∀ b, H b ≠ none → b = a) (away : H a ≠ none → K.lookup a = none)
    (want : sp [.ref a] H (fun v _ => v = .bl true) E0) :
    codeAny (model P w) callerA (.call (.ref fa) ⟨[.ref a], []⟩) (fun r s' => r = .ok (.ret (.bool true)) ∧ OldK s.heap s'.heap ∧ s'.os = s.os ∧ AllBare s'.gens) s := by
  have free : ∀ {b : Addr} {o : Obj}, s.heap.get? b = some o → (b = a → o ≠ { cls := .type "list", data := .seq vs.toArray }) → H b = none := fun {b o} e far => by
    cases q : H b with
    | none => rfl
    | some u =>
      have here : b = a := alone b (by rw [q]; exact nofun)
      refine absurd ?_ (far here)
      rw [here, obj] at e
      exact (Option.some.inj e).symm
  have space : ∀ {b : Addr} {m : Str → Option Value}, s.heap.Ns b m → (hidT s.heap H).Ns b m := fun {b m} ⟨o, es, ep, e, d, more⟩ =>
    ⟨o, es, ep, hidT_get e (free e fun _ same => by rw [same] at d; exact nomatch d), d, more⟩
  have baseK : K.In (hidT s.heap H) := fun b o e => hidT_get (inK b o e) (by
    cases q : H b with
    | none => rfl
    | some u =>
      have here : b = a := alone b (by rw [q]; exact nofun)
      have no := away (by rw [← here, q]; exact nofun)
      rw [here, no] at e
      exact nomatch e)
  have lim : (hidT s.heap H).NoLimit := by
    obtain ⟨mc, h1, h2⟩ := noLim
    exact ⟨mc, space h1, h2⟩
  have modu : Mod K mg (hidT s.heap H) := ⟨baseK, space mains, ⟨mb, space blts, boot⟩, lim⟩
  have e0 : Env0 P w K mg (hidT s.heap H) callerA [] s H := ⟨rfl, modu, fun _ _ e => of_hidT e, Nat.le_of_eq (hidT_size _ _), trivial, (fun _ hb => absurd (show _ ∈ ([] : List Addr) from hb) List.not_mem_nil), held, .of_eq gens⟩
  refine codeAny_mono ((goesF _ baseK (space mains)).goes callerA [] s H [.ref a] [.ref a] _ E0 rfl room e0 (bind s (.ref a)) (.cons rfl .nil) want) fun r s' got => ?_
  cases r with
  | error _ => exact False.elim got
  | ok flow =>
  cases flow with
  | next => exact False.elim got
  | brk => exact False.elim got
  | cont => exact False.elim got
  | ret u =>
    obtain ⟨v, H', sameOs, bare, un, held', rel, yes⟩ := got
    have yes' : v = .bl true := yes
    subst yes'
    obtain rfl : u = Value.bool true := rel
    refine ⟨rfl, OldK.of_keep fun b o e => ?_, sameOs, bare⟩
    rcases only b with free | ⟨ob, xs, fz⟩
    · exact un.keep b o e free (fun z => nomatch z) (fun z => nomatch z)
    · obtain ⟨e1, _⟩ := held b _ fz
      obtain ⟨e2, _⟩ := held' b _ (un.frzs b ob _ fz)
      rw [e2, ← e1, e]
/-- .. from the script as it lies -/
theorem end_call (inK : K.In s.heap) (mains : s.heap.Ns mainGlobals mg) (blts : s.heap.Ns builtinsNs mb) (boot : ∀ y : Str, y ≠ "__name__" → mb y = bootBuiltins y) (noLim : s.heap.NoLimit) (gens : s.gens = #[])
    (obj : s.heap.get? a = some { cls := .type "list", data := .seq vs.toArray }) (numbs : PyProof.Rows.IntsAre vs ns) (small : ns.length ≤ sizeLine) (room : Room k callerA)
    (goesF : ∀ base : Heap, K.In base → base.Ns mainGlobals mg → FnG P w K mg base k fa fd [x] sp) (bind : ∀ (s : Shared) (u : Value), BindsTo s fd ⟨[u], []⟩ [(x, u)])
    (want : ∀ H : Hp, Only H → SqL K H a (ns.map V.int) → sp [.ref a] H (fun v _ => v = .bl true) E0) :
    codeAny (model P w) callerA (.call (.ref fa) ⟨[.ref a], []⟩) (fun r s' => r = .ok (.ret (.bool true)) ∧ OldK s.heap s'.heap ∧ s'.os = s.os ∧ AllBare s'.gens) s := by
  have rel := vals_ints numbs
  cases hk : K.lookup a with
  | some o =>
    have e := inK a o hk
    rw [obj] at e
    obtain rfl := Option.some.inj e
    have only : Only fun _ => none := fun _ => Or.inl rfl
    have held : HOk P w (fun _ => none) s.heap := fun _ _ z => nomatch z
    refine end_from inK mains blts boot noLim gens obj room goesF bind (fun _ => none) only held (fun _ z => absurd rfl z) (fun z => absurd rfl z) (want _ only ?_)
    exact Or.inr ⟨_, vs.toArray, _, hk, rfl, rfl, rfl, by rw [List.size_toArray, numbs.length]; exact small, by simpa using rel⟩
  | none =>
    let one : Hp := upd (fun _ => none) a (.frz { cls := .type "list", data := .seq vs.toArray } (.lst (ns.map V.int)))
    have at_a : one a = some (.frz { cls := .type "list", data := .seq vs.toArray } (.lst (ns.map V.int))) := upd_same
    have off_a : ∀ b, b ≠ a → one b = none := fun b hb => upd_ne hb
    have only : Only one := fun b => by
      by_cases hb : b = a
      · subst hb
        exact Or.inr ⟨_, _, at_a⟩
      · exact Or.inl (off_a b hb)
    have held : HOk P w one s.heap := fun b u z => by
      by_cases hb : b = a
      · subst hb
        rw [at_a] at z
        obtain rfl := Option.some.inj z
        exact ⟨obj, by rw [List.length_map]; exact small, vs, _, rel, obj⟩
      · rw [off_a b hb] at z
        exact nomatch z
    exact end_from inK mains blts boot noLim gens obj room goesF bind one only held (fun b z => Classical.byContradiction fun hb => z (off_a b hb)) (fun _ => hk) (want _ only (.inl (.inr ⟨_, at_a⟩)))
end
/-- what is left of the statement behind the head -/
theorem walk_G {l : PySem.W.OpenLaw} {n k : Nat} {q : Program} {loose : List Str} {XP : (Str → Option Value) → Heap → Prop} {YP : World → Heap → Prop} {d : DefRec} {K : Params → PySem.W.Frag} {sp : PySem.W.Frag → Sp} {x : Str}
    (hn : l.most = some n) (small : n ≤ sizeLine) (plain : d.params.defaults = []) (room : Room k callerA) (hY : ∀ (w : World) (h : Heap), YP w h → (K w.params).In h)
    (F : ∀ (w : World) (mg : Str → Option Value) (fa : Addr) (h : Heap), (K w.params).In h → h.Ns mainGlobals mg → mg d.name = some (.ref fa) →
      ∃ fd : FuncData, (∀ (s : Shared) (u : Value), BindsTo s fd ⟨[u], []⟩ [(x, u)]) ∧ ∀ base : Heap, (K w.params).In base → base.Ns mainGlobals mg → FnG l.prog w (K w.params) mg base k fa fd [x] (sp (K w.params)))
    (want : ∀ (K : PySem.W.Frag) (H : Hp) (a : Addr) (ns : List Int), ns.length ≤ n → Only H → SqL K H a (ns.map V.int) → sp K [.ref a] H (fun v _ => v = .bl true) E0) :
    PySem.W.WalkO q loose XP YP l.row.toRowW d [] (fun f vs => PySem.call f vs) := by
  refine Att.attach_call hn plain fun w s0 s1 mg mb fa o pm cd doc a vs ns ground told ho hd hcd hmg obj numbs many gens => ?_
  have inK := hY w _ told
  obtain ⟨fd, bind, goesF⟩ := F w mg fa _ inK ground.T.g hmg
  exact end_call inK ground.T.g ground.T.b ground.T.builtins ground.T.nolimit gens obj numbs (Nat.le_trans many small) room goesF bind fun H only held => want (K w.params) H a ns many only held
end LG
/-! ### sizes of data, data of tuples, heaps -/
namespace LG
open PySem PySem.Spec PyProof.Rows L2
/-- data whose text is short: at most m parts, h deep -/
def Sized (m h : Nat) (d : PyData) : Prop := d.leavesShort 40 = true ∧ d.showable = true ∧ d.depth ≤ h ∧ d.bulk ≤ m
theorem Sized.more {m m' h h' : Nat} {d : PyData} (s : Sized m h d) (hm : m ≤ m') (hh : h ≤ h') : Sized m' h' d := ⟨s.1, s.2.1, Nat.le_trans s.2.2.1 hh, Nat.le_trans s.2.2.2 hm⟩
theorem sized_all {m h : Nat} : ∀ {ds : List PyData}, (∀ d ∈ ds, Sized m h d) → PyData.leavesShortAll 40 ds = true ∧ PyData.showableAll ds = true ∧ PyData.depthAll ds ≤ h ∧ PyData.bulkAll ds ≤ ds.length * (m + 1)
  | [], _ => ⟨by simp only [PyData.leavesShortAll], by simp only [PyData.showableAll], by simp only [PyData.depthAll]; omega, by simp only [PyData.bulkAll]; omega⟩
  | d :: ds, hd => by
    obtain ⟨a1, a2, a3, a4⟩ := hd d List.mem_cons_self
    obtain ⟨b1, b2, b3, b4⟩ := sized_all fun e he => hd e (List.mem_cons_of_mem _ he)
    refine ⟨by simp only [PyData.leavesShortAll, a1, b1, Bool.and_self], by simp only [PyData.showableAll, a2, b2, Bool.and_self], by simp only [PyData.depthAll]; omega, ?_⟩
    simp only [PyData.bulkAll, List.length_cons, Nat.add_mul, Nat.one_mul] at b4 ⊢
    omega
theorem sized_tup {m h : Nat} {ds : List PyData} (hd : ∀ d ∈ ds, Sized m h d) : Sized (ds.length * (m + 1)) (h + 1) (.tuple ds) := by
  obtain ⟨a1, a2, a3, a4⟩ := sized_all hd
  exact ⟨by simpa only [PyData.leavesShort] using a1, by simpa only [PyData.showable] using a2, by simp only [PyData.depth]; omega, by simpa only [PyData.bulk] using a4⟩
theorem sized_lst {m h : Nat} {ds : List PyData} (hd : ∀ d ∈ ds, Sized m h d) : Sized (ds.length * (m + 1)) (h + 1) (.list ds) := by
  obtain ⟨a1, a2, a3, a4⟩ := sized_all hd
  exact ⟨by simpa only [PyData.leavesShort] using a1, by simpa only [PyData.showable] using a2, by simp only [PyData.depth]; omega, by simpa only [PyData.bulk] using a4⟩
theorem sized_non : Sized 0 0 .none := ⟨by simp only [PyData.leavesShort], by simp only [PyData.showable], by simp only [PyData.depth]; omega, by simp only [PyData.bulk]; omega⟩
theorem sized_bl (b : Bool) : Sized 0 0 (.bool b) := ⟨by simp only [PyData.leavesShort], by simp only [PyData.showable], by simp only [PyData.depth]; omega, by simp only [PyData.bulk]; omega⟩
/-- an int of few digits -/
theorem sized_int {i : Int} (h : i.natAbs < 10 ^ 39) : Sized 0 0 (.int i) := by
  have short : (PyData.shown (.int i)).length ≤ 40 := by
    simp only [PyData.shown]
    show (Str.ofString (toString i)).length ≤ 40
    rw [PySem.ofString_length]
    exact int_text_length_le10 (by decide) h
  refine ⟨by simpa only [PyData.leavesShort, decide_eq_true_eq] using short, ?_, by simp only [PyData.depth]; omega, by simp only [PyData.bulk]; omega⟩
  simp only [PyData.showable, decide_eq_true_eq]
  by_cases z : i.natAbs = 0
  · rw [z]; decide
  · exact Nat.lt_of_lt_of_le ((Nat.log2_lt z).mpr (Nat.lt_of_lt_of_le h (by decide : 10 ^ 39 ≤ 2 ^ 130))) (by decide)
/-- what repr asks -/
theorem Sized.rep {m h : Nat} {d : PyData} (s : Sized m h d) (hm : m ≤ 390000) (hh : h ≤ 60) : d.showable = true ∧ d.depth ≤ 60 ∧ d.shown.length ≤ sizeLine := by
  refine ⟨s.2.1, Nat.le_trans s.2.2.1 hh, ?_⟩
  have z := PyData.shown_le_bulk 40 (by decide) d s.1
  have z2 := s.2.2.2
  rw [sizeLine_eq]
  omega
/-- tuples stay -/
def TupsStay (H H' : Hp) : Prop := ∀ b o, (∃ xs, o = .tup xs) ∨ (∃ ob xs, o = .frz ob (.tup xs)) → H b = some o → H' b = some o
theorem TupsStay.trans {H H1 H2 : Hp} (a : TupsStay H H1) (b : TupsStay H1 H2) : TupsStay H H2 := fun c o h e => b c o h (a c o h e)
theorem TupsStay.refl (H : Hp) : TupsStay H H := fun _ _ _ e => e
theorem _root_.L2.Same.tups {H H' : Hp} (s : Same H H') : TupsStay H H' := fun b o _ e => s b o e
theorem TupsStay.seq {K : PySem.W.Frag} {H H' : Hp} {a : Addr} {xs : List V} (t : TupsStay H H') (h : SqT K H a xs) : SqT K H' a xs := by
  rcases h with (h | ⟨o, h⟩) | h
  · exact .inl (.inl (t _ _ (.inl ⟨_, rfl⟩) h))
  · exact .inl (.inr ⟨o, t _ _ (.inr ⟨_, _, rfl⟩) h⟩)
  · exact .inr h
theorem _root_.L2.Same.seqT {K : PySem.W.Frag} {H H' : Hp} {a : Addr} {xs : List V} (s : Same H H') (h : SqT K H a xs) : SqT K H' a xs := (Same.tups s).seq h
theorem tups_lst {H : Hp} {p : Addr} {xs ys : List V} (h : H p = some (.lst xs)) : TupsStay H (upd H p (.lst ys)) := fun b o hk e => by
  rw [upd_ne (ne_of e h ?_)]
  · exact e
  · rcases hk with ⟨_, rfl⟩ | ⟨_, _, rfl⟩ <;> exact nofun
theorem same_new {H : Hp} {p : Addr} (h : H p = none) (o : HO) : Same H (upd H p o) := fun b u e => by
  rw [upd_ne (ne_of_none e h)]
  exact e
/-- a list that was made since changes -/
theorem same_own {H H' : Hp} {p : Addr} (s : Same H H') (h : H p = none) (o : HO) : Same H (upd H' p o) := fun b u e => by
  rw [upd_ne (ne_of_none e h)]
  exact s b u e
mutual
/-- data without lists -/
inductive Dt (K : PySem.W.Frag) (H : Hp) : V → PyData → Prop
  | non : Dt K H .non .none
  | bl (b : Bool) : Dt K H (.bl b) (.bool b)
  | int (i : Int) : Dt K H (.int i) (.int i)
  | str (x : Str) : Dt K H (.str x) (.str x)
  | tup {a : Addr} {xs : List V} {ds : List PyData} : SqT K H a xs → DtAll K H xs ds → Dt K H (.ref a) (.tuple ds)
inductive DtAll (K : PySem.W.Frag) (H : Hp) : List V → List PyData → Prop
  | nil : DtAll K H [] []
  | cons {v : V} {vs : List V} {d : PyData} {ds : List PyData} : Dt K H v d → DtAll K H vs ds → DtAll K H (v :: vs) (d :: ds)
end
section
variable {K : PySem.W.Frag} {H H' : Hp}
mutual
theorem Dt.dp : ∀ {v : V} {d : PyData}, Dt K H v d → Dp K H v d
  | _, _, .non => .non
  | _, _, .bl b => .bl b
  | _, _, .int i => .int i
  | _, _, .str x => .str x
  | _, _, .tup h a => .tup h a.dp
theorem DtAll.dp : ∀ {vs : List V} {ds : List PyData}, DtAll K H vs ds → DpAll K H vs ds
  | _, _, .nil => .nil
  | _, _, .cons h a => .cons h.dp a.dp
end
mutual
theorem Dt.stay (t : TupsStay H H') : ∀ {v : V} {d : PyData}, Dt K H v d → Dt K H' v d
  | _, _, .non => .non
  | _, _, .bl b => .bl b
  | _, _, .int i => .int i
  | _, _, .str x => .str x
  | _, _, .tup h a => .tup (t.seq h) (a.stay t)
theorem DtAll.stay (t : TupsStay H H') : ∀ {vs : List V} {ds : List PyData}, DtAll K H vs ds → DtAll K H' vs ds
  | _, _, .nil => .nil
  | _, _, .cons h a => .cons (h.stay t) (a.stay t)
end
theorem DtAll.len : ∀ {vs : List V} {ds : List PyData}, DtAll K H vs ds → vs.length = ds.length
  | _, _, .nil => rfl
  | _, _, .cons _ a => by rw [List.length_cons, List.length_cons, a.len]
theorem DtAll.at : ∀ {vs : List V} {ds : List PyData} {i : Nat} {d : PyData}, DtAll K H vs ds → ds[i]? = some d → ∃ v, vs[i]? = some v ∧ Dt K H v d
  | _, _, _, _, .nil, e => by simp at e
  | _, _, 0, _, .cons h _, e => by simp at e; subst e; exact ⟨_, rfl, h⟩
  | _, _, i + 1, d, .cons _ a, e => by simpa using a.at (i := i) (by simpa using e)
theorem DtAll.of : ∀ {vs : List V} {ds : List PyData} {i : Nat} {v : V}, DtAll K H vs ds → vs[i]? = some v → ∃ d, ds[i]? = some d ∧ Dt K H v d
  | _, _, _, _, .nil, e => by simp at e
  | _, _, 0, _, .cons h _, e => by simp at e; subst e; exact ⟨_, rfl, h⟩
  | _, _, i + 1, d, .cons _ a, e => by simpa using a.of (i := i) (by simpa using e)
theorem DtAll.app : ∀ {vs ws : List V} {ds es : List PyData}, DtAll K H vs ds → DtAll K H ws es → DtAll K H (vs ++ ws) (ds ++ es)
  | _, _, _, _, .nil, b => b
  | _, _, _, _, .cons h a, b => .cons h (a.app b)
theorem DtAll.take : ∀ {vs : List V} {ds : List PyData} (n : Nat), DtAll K H vs ds → DtAll K H (vs.take n) (ds.take n)
  | _, _, 0, _ => .nil
  | _, _, _ + 1, .nil => .nil
  | _, _, n + 1, .cons h a => .cons h (a.take n)
theorem DtAll.drop : ∀ {vs : List V} {ds : List PyData} (n : Nat), DtAll K H vs ds → DtAll K H (vs.drop n) (ds.drop n)
  | _, _, 0, a => a
  | _, _, _ + 1, .nil => .nil
  | _, _, n + 1, .cons _ a => a.drop n
theorem DtAll.ints : ∀ (ns : List Int), DtAll K H (ns.map V.int) (ns.map PyData.int)
  | [] => .nil
  | n :: ns => .cons (.int n) (DtAll.ints ns)
theorem item_of {ns : List Int} {i : Nat} {y : V} (hi : (ns.map V.int)[i]? = some y) : ∃ z, ns[i]? = some z ∧ y = V.int z := by
  rw [List.getElem?_map] at hi
  cases e : ns[i]? with
  | none => rw [e] at hi; cases hi
  | some z => rw [e] at hi; exact ⟨z, rfl, (Option.some.inj hi).symm⟩
theorem take_more {α : Type} : ∀ {l : List α} {i : Nat} {x : α}, l[i]? = some x → l.take (i + 1) = l.take i ++ [x]
  | [], i, x, h => by simp at h
  | a :: l, 0, x, h => by simp at h; simp [h]
  | a :: l, i + 1, x, h => by
    have ih := take_more (l := l) (i := i) (x := x) (by simpa using h)
    simp [ih]
end
end LG
/-! ### a def of the text with its promise, by its name -/
namespace LG
open PySem PySem.Spec PyProof.Rows L2
/-- the def of this name, the place hidden -/
structure Has (P : Program) (w : World) (K : PySem.W.Frag) (mg : Str → Option Value) (base : Heap) (CX : CXT) (k : Nat) (x : Str) (ps : List Str) (sp : Sp) : Prop where
  ex : ∃ (f : Addr) (fd : FuncData), FnOk P w K mg base CX k f fd ps sp ∧ mg x = some (.ref f) ∧ PySem.W.keepIn K (.ref f) = true ∧ Binds K fd ps []
structure HasG (P : Program) (w : World) (K : PySem.W.Frag) (mg : Str → Option Value) (base : Heap) (k : Nat) (x : Str) (ps : List Str) (sp : Sp) : Prop where
  ex : ∃ (f : Addr) (fd : FuncData), FnG P w K mg base k f fd ps sp ∧ mg x = some (.ref f) ∧ PySem.W.keepIn K (.ref f) = true ∧ Binds K fd ps []
/-- the def as the top has left it -/
structure Def (K : PySem.W.Frag) (mg : Str → Option Value) (x : Str) (st : Stmt) (ps : List Str) : Prop where
  ex : ∃ (f : Addr) (fd : FuncData), Fun K x x st f fd ∧ mg x = some (.ref f) ∧ Binds K fd ps []
section
variable {P : Program} {w : World} {K : PySem.W.Frag} {mg : Str → Option Value} {base : Heap} {CX : CXT} {k : Nat} {x : Str} {ps : List Str} {sp : Sp} {st : Stmt}
theorem Def.has (d : Def K mg x st ps) (h : ∀ (f : Addr) (fd : FuncData), Fun K x x st f fd → FnOk P w K mg base CX k f fd ps sp) : Has P w K mg base CX k x ps sp := by
  obtain ⟨f, fd, F, m, b⟩ := d.ex
  exact ⟨f, fd, h f fd F, m, F.kp, b⟩
theorem Def.hasG (d : Def K mg x st ps) (h : ∀ (f : Addr) (fd : FuncData), Fun K x x st f fd → FnG P w K mg base k f fd ps sp) : HasG P w K mg base k x ps sp := by
  obtain ⟨f, fd, F, m, b⟩ := d.ex
  exact ⟨f, fd, h f fd F, m, F.kp, b⟩
theorem Has.more {j : Nat} (h : Has P w K mg base CX k x ps sp) (hj : k ≤ j) : Has P w K mg base CX j x ps sp := by
  obtain ⟨f, fd, F, r⟩ := h.ex
  exact ⟨f, fd, F.mono hj, r⟩
theorem Has.imp {sp' : Sp} (h : Has P w K mg base CX k x ps sp) (i : ∀ vs H Q E, sp' vs H Q E → sp vs H Q E) : Has P w K mg base CX k x ps sp' := by
  obtain ⟨f, fd, F, r⟩ := h.ex
  exact ⟨f, fd, F.imp i, r⟩
end
section
variable {X : Cx} {k j : Nat} {ps : List Str} {sp : Sp} {x : Str} {p pos : Pos} {e : Expr} {es : List Expr} {t : TA}
/-- its call: nothing is raised -/
theorem pc (h : Has X.prog X.w X.K X.mg X.base CX0 k x ps sp) (hr : Room j X.A) (ha : PA X (e :: es) t) (hg : Gl X x := by rfl) (hj : k ≤ j := by first | decide | omega) (hdb : (x == ("__debug__" : Str)) = false := by decide)
    (he : starEach (e :: es) X.env = (false, eval e X.env) :: starEach es X.env := by rfl) (hpl : (backTo pos (starEach es X.env)).any (·.1) = false := by rfl) : PE X (.Call (.Name x p) (e :: es) [] pos) (tCall sp [] E0 t) := by
  obtain ⟨f, fd, F, m, kp, b⟩ := h.ex
  exact pe_call F (hr.mono hj) hg m kp b .nil pass0 ha hdb he hpl
theorem pcX (h : Has X.prog X.w X.K X.mg X.base (L2.CX X.prog X.w) k x ps sp) (hr : Room j X.A) (ha : PA X (e :: es) t) (hg : Gl X x := by rfl) (hj : k ≤ j := by first | decide | omega) (hdb : (x == ("__debug__" : Str)) = false := by decide)
    (he : starEach (e :: es) X.env = (false, eval e X.env) :: starEach es X.env := by rfl) (hpl : (backTo pos (starEach es X.env)).any (·.1) = false := by rfl) : PE X (.Call (.Name x p) (e :: es) [] pos) (tCall sp [] E0 t) := by
  obtain ⟨f, fd, F, m, kp, b⟩ := h.ex
  exact pe_call F (hr.mono hj) hg m kp b .nil passL ha hdb he hpl
theorem pcG (h : HasG X.prog X.w X.K X.mg X.base k x ps sp) (guard : X.A.guards = some []) (hr : Room j X.A) (ha : PA X (e :: es) t) (hg : Gl X x := by rfl) (hj : k ≤ j := by first | decide | omega) (hdb : (x == ("__debug__" : Str)) = false := by decide)
    (he : starEach (e :: es) X.env = (false, eval e X.env) :: starEach es X.env := by rfl) (hpl : (backTo pos (starEach es X.env)).any (·.1) = false := by rfl) : PE X (.Call (.Name x p) (e :: es) [] pos) (tCall sp [] E0 t) := by
  obtain ⟨f, fd, F, m, kp, b⟩ := h.ex
  exact pe_callG F guard (hr.mono hj) hg m kp b ha hdb he hpl
/-- its call: what it raises leaves this def too -/
theorem pcE {E : XK} (h : Has X.prog X.w X.K X.mg X.base (L2.CX X.prog X.w) k x ps sp) (hr : Room j X.A) (tk : Takes X (fun cls d _ H => E cls d H)) (ha : PA X (e :: es) t) (hg : Gl X x := by rfl) (hj : k ≤ j := by first | decide | omega) (hdb : (x == ("__debug__" : Str)) = false := by decide)
    (he : starEach (e :: es) X.env = (false, eval e X.env) :: starEach es X.env := by rfl) (hpl : (backTo pos (starEach es X.env)).any (·.1) = false := by rfl) : PE X (.Call (.Name x p) (e :: es) [] pos) (tCall sp [] E t) := by
  obtain ⟨f, fd, F, m, kp, b⟩ := h.ex
  exact pe_call F (hr.mono hj) hg m kp b .nil (passes_call tk fun _ _ _ _ z => z) ha hdb he hpl
/-- its call within a try's body: what it raises is wished for -/
theorem pcS {W : WX} (h : Has X.prog X.w X.K X.mg X.base (L2.CX X.prog X.w) k x ps sp) (hr : Room j X.A) (tk : Takes X W) (ha : PA X (e :: es) t) (hg : Gl X x := by rfl) (hj : k ≤ j := by first | decide | omega) (hdb : (x == ("__debug__" : Str)) = false := by decide)
    (he : starEach (e :: es) X.env = (false, eval e X.env) :: starEach es X.env := by rfl) (hpl : (backTo pos (starEach es X.env)).any (·.1) = false := by rfl) : PE X (.Call (.Name x p) (e :: es) [] pos) (tCallS sp (WE W) t) := by
  obtain ⟨f, fd, F, m, kp, b⟩ := h.ex
  exact pe_callS F (hr.mono hj) hg m kp b (fun σ => passAt tk σ) ha hdb he hpl
end
/-! ### places in lists of ints -/
theorem ix_of {n : Nat} {i : Int} (h0 : 0 ≤ i) (h1 : i < n) : ixN n i = some i.toNat := by
  unfold ixN
  rw [if_pos h0, if_pos h1]
theorem at_int {ns : List Int} {i : Int} (h0 : 0 ≤ i) (h1 : i < ns.length) : ∃ z, ns[i.toNat]? = some z ∧ z ∈ ns ∧ atI (ns.map V.int) i = some (.int z) := by
  have lt : i.toNat < ns.length := by omega
  refine ⟨ns[i.toNat], by simp, List.getElem_mem _, ?_⟩
  refine at_of (j := i.toNat) (by omega) ?_
  rw [List.getElem?_map]
  simp
theorem dec_t {p : Prop} [Decidable p] (h : decide p = true) : p := of_decide_eq_true h
theorem dec_f {p : Prop} [Decidable p] (h : ¬ decide p = true) : ¬ p := fun z => h (decide_eq_true z)
end LG
namespace LG
open PySem PySem.Spec PyProof.Rows L2
section
variable {X : Cx}
/-- == and != of ints -/
theorem op_eqi : OpR X (compareOp .Eq) (rI0 fun i j => .bl (decide (i = j))) := by
  intro pins s σ H x y v u Q inv rx ry want
  obtain ⟨i, j, rfl, rfl, q⟩ := want
  refine op_eq pins s σ H _ _ v u Q inv rx ry ⟨rfl, ?_⟩
  rw [show decide (V.int i = V.int j) = decide (i = j) from decide_eq_decide.mpr ⟨fun z => V.int.inj z, fun z => congrArg V.int z⟩]
  exact q
theorem op_nei : OpR X (compareOp .NotEq) (rI0 fun i j => .bl (!decide (i = j))) := by
  intro pins s σ H x y v u Q inv rx ry want
  obtain ⟨i, j, rfl, rfl, q⟩ := want
  refine op_ne pins s σ H _ _ v u Q inv rx ry ⟨rfl, ?_⟩
  rw [show decide (V.int i = V.int j) = decide (i = j) from decide_eq_decide.mpr ⟨fun z => V.int.inj z, fun z => congrArg V.int z⟩]
  exact q
/-- == and != of texts -/
theorem op_eqs : OpR X (compareOp .Eq) (fun x y H Q => ∃ a b, x = .str a ∧ y = .str b ∧ Q (.bl (decide (a = b))) H) := by
  intro pins s σ H x y v u Q inv rx ry want
  obtain ⟨i, j, rfl, rfl, q⟩ := want
  refine op_eq pins s σ H _ _ v u Q inv rx ry ⟨rfl, ?_⟩
  rw [show decide (V.str i = V.str j) = decide (i = j) from decide_eq_decide.mpr ⟨fun z => V.str.inj z, fun z => congrArg V.str z⟩]
  exact q
theorem op_nes : OpR X (compareOp .NotEq) (fun x y H Q => ∃ a b, x = .str a ∧ y = .str b ∧ Q (.bl (!decide (a = b))) H) := by
  intro pins s σ H x y v u Q inv rx ry want
  obtain ⟨i, j, rfl, rfl, q⟩ := want
  refine op_ne pins s σ H _ _ v u Q inv rx ry ⟨rfl, ?_⟩
  rw [show decide (V.str i = V.str j) = decide (i = j) from decide_eq_decide.mpr ⟨fun z => V.str.inj z, fun z => congrArg V.str z⟩]
  exact q
end
/-! ### parts of tuples -/
theorem cut_last (xs : List V) (v : V) : cutV (xs ++ [v]) none (some (-1)) = xs := by
  unfold cutV HT.sIx
  simp only [List.length_append, List.length_singleton]
  rw [if_pos (by decide)]
  rw [List.drop_zero, show ((-1 + ((xs.length + 1 : Nat) : Int)).toNat - 0) = xs.length from by omega]
  simp
theorem cut_last_whole (xs : List V) (v : V) : ¬ (HT.sIx (xs ++ [v]).length 0 none = 0 ∧ HT.sIx (xs ++ [v]).length (xs ++ [v]).length (some (-1)) = (xs ++ [v]).length) := by
  unfold HT.sIx
  simp only [List.length_append, List.length_singleton]
  rw [if_pos (by decide)]
  omega
theorem cut_to (xs : List V) (n : Nat) : cutV xs none (some (n : Int)) = xs.take n := by
  unfold cutV
  rw [HT.sIx_none, HT.sIx_nat, List.drop_zero, Nat.sub_zero]
  rcases Nat.le_total n xs.length with h | h
  · rw [Nat.min_eq_left h]
  · rw [Nat.min_eq_right h, List.take_of_length_le (Nat.le_refl _), List.take_of_length_le h]
theorem cut_from (xs : List V) (n : Nat) : cutV xs (some (n : Int)) none = xs.drop n := by
  unfold cutV
  rw [HT.sIx_none, HT.sIx_nat]
  rcases Nat.le_total n xs.length with h | h
  · rw [Nat.min_eq_left h, List.take_of_length_le (by rw [List.length_drop]; exact Nat.le_refl _)]
  · rw [Nat.min_eq_right h, List.drop_of_length_le (Nat.le_refl _), List.drop_of_length_le h, List.take_nil]
/-- a slice of a tuple: the tuple itself, or a new one, of these items -/
def rCut (K : PySem.W.Frag) : V → Option Int → Option Int → Hp → VK → Prop := fun x lo hi H Q => ∃ a xs, x = .ref a ∧ SqT K H a xs ∧
  ∀ p H', Same H H' → SqT K H' p (cutV xs lo hi) → Q (.ref p) H'
theorem sl_cut {X : Cx} : SlR X (rCut X.K) := by
  intro pins s σ H x v vl vu lo hi sl Q inv rx hs pl pu want
  obtain ⟨a, xs, rfl, hx, q⟩ := want
  refine sl_tupA pins s σ H _ v vl vu lo hi sl Q inv rx hs pl pu ⟨a, xs, rfl, hx, fun whole => q a H (Same.refl H) ?_, fun _ p hp => q p _ (same_new hp _) (SqT.of upd_same)⟩
  have e : cutV xs lo hi = xs := by
    unfold cutV
    rw [whole.1, whole.2, List.drop_zero, Nat.sub_zero, List.take_of_length_le (Nat.le_refl _)]
  rw [e]
  exact hx
/-- t + u: one of the two, or a new tuple, of these items -/
def rPlus (K : PySem.W.Frag) : R2 := fun x y H Q => ∃ a b xs ys, x = .ref a ∧ y = .ref b ∧ SqT K H a xs ∧ SqT K H b ys ∧ xs.length + ys.length ≤ sizeLine ∧
  ∀ p H', Same H H' → SqT K H' p (xs ++ ys) → Q (.ref p) H'
theorem op_plus {X : Cx} : OpR X (binaryOp .Add) (rPlus X.K) := by
  intro pins s σ H x y v u Q inv rx ry want
  obtain ⟨a, b, xs, ys, rfl, rfl, ha, hb, hz, q⟩ := want
  refine op_catA pins s σ H _ _ v u Q inv rx ry ⟨a, b, xs, ys, rfl, rfl, ha, hb, hz, fun e => q b H (Same.refl H) ?_, fun _ e => q a H (Same.refl H) ?_, fun _ _ p hp => q p _ (same_new hp _) (SqT.of upd_same)⟩
  · rw [e]
    exact hb
  · rw [e, List.append_nil]
    exact ha
theorem small16 {n : Nat} (h : n ≤ 100000) : n ≤ sizeLine := Nat.le_trans h (by decide)
end LG
/-! ### error classes of the text -/
namespace LG
open PySem PySem.Spec PyProof.Rows L2
/-- the class of this name over ValueError -/
structure Err (K : PySem.W.Frag) (mg : Str → Option Value) (x : Str) (C : Addr) : Prop where
  xi : PySem.W.excIn K C [.type "ValueError", .type "Exception", .type "BaseException", .type "object"] "ValueError.__new__" = true
  g : mg x = some (.ref C)
  k : PySem.W.keepIn K (.ref C) = true
  b : PySem.W.subIn K (.ref C) (.type "BaseException") = some true
  t : PySem.W.typeIn K (.ref C) = some (.type "type")
/-- what a clause for the class at D makes of an error of the class at C -/
theorem exm_of2 {K : PySem.W.Frag} {C D : Addr} {r : Bool} (h1 : PySem.W.subIn K (.ref D) (.type "BaseException") = some true) (h2 : PySem.W.isClsIn K D = true) (h3 : PySem.W.typeIn K (.ref D) = some (.type "type")) (h4 : PySem.W.subIn K (.ref C) (.ref D) = some r) :
    PySem.W.exmOne K (.ref C) (.ref D) = some r := by
  show (if (PySem.W.subIn K (.ref D) (.type "BaseException") == some true) = true then (if (PySem.W.isClsIn K D && PySem.W.typeIn K (.ref D) == some (.type "type")) = true then PySem.W.subIn K (.ref C) (.ref D) else none) else none) = some r
  rw [h1, h2, h3, h4]
  rfl
end LG
/-! ### the hand from which the law takes its draws -/
namespace LG
open PySem PySem.Spec PyProof.Rows L2
/-- hand at h: the draws at d, how many were taken -/
def Hand (H : Hp) (h d : Addr) (ds : List Int) (n : Nat) : Prop := H h = some (.lst [.ref d, .int n]) ∧ H d = some (.lst (ds.map V.int))
section
variable {H H' : Hp} {h d : Addr} {ds : List Int} {n : Nat}
theorem Hand.ne (x : Hand H h d ds n) : d ≠ h := by
  rintro rfl
  have e := x.1.symm.trans x.2
  cases ds with
  | nil => cases e
  | cons z ds => cases e
theorem Hand.next (x : Hand H h d ds n) : Hand (upd H h (.lst [.ref d, .int ((n + 1 : Nat) : Int)])) h d ds (n + 1) := ⟨upd_same, by rw [upd_ne x.ne]; exact x.2⟩
theorem Hand.same (x : Hand H h d ds n) (s : Same H H') : Hand H' h d ds n := ⟨s _ _ x.1, s _ _ x.2⟩
theorem Hand.tups (x : Hand H h d ds n) : TupsStay H (upd H h (.lst [.ref d, .int ((n + 1 : Nat) : Int)])) := tups_lst x.1
/-- another list stays -/
theorem Hand.keep {a : Addr} {ns : List Int} (x : Hand H h d ds n) (e : H a = some (.lst (ns.map V.int))) : (upd H h (.lst [.ref d, .int ((n + 1 : Nat) : Int)])) a = some (.lst (ns.map V.int)) := by
  rw [upd_ne]
  · exact e
  rintro rfl
  have q := x.1.symm.trans e
  cases ns with
  | nil => cases q
  | cons z ns => cases q
end
end LG
/-! ### data of any kind, outside the places that may change -/
namespace LG
open PySem PySem.Spec PyProof.Rows L2
/-- what lies outside M stays, and all tuples -/
structure Go (M : Addr → Prop) (H H' : Hp) : Prop where
  out : ∀ b o, ¬ M b → H b = some o → H' b = some o
  tups : TupsStay H H'
section
variable {M : Addr → Prop} {H H1 H' : Hp} {K : PySem.W.Frag}
theorem Go.refl (H : Hp) : Go M H H := ⟨fun _ _ _ e => e, TupsStay.refl H⟩
theorem Go.trans (a : Go M H H1) (b : Go M H1 H') : Go M H H' := ⟨fun c o m e => b.out c o m (a.out c o m e), a.tups.trans b.tups⟩
theorem _root_.L2.Same.go (s : Same H H') : Go M H H' := ⟨fun b o _ e => s b o e, s.tups⟩
theorem Go.put {a : Addr} {xs ys : List V} (m : M a) (h : H a = some (.lst xs)) : Go M H (upd H a (.lst ys)) := ⟨fun b u n e => by
  rw [upd_ne (fun z => n (by rw [z]; exact m))]
  exact e, tups_lst h⟩
theorem Go.new {p : Addr} (h : H p = none) (o : HO) : Go M H (L2.upd H p o) := L2.Same.go (same_new h o)
theorem Go.seqL {a : Addr} {xs : List V} (s : Go M H H') (m : ¬ M a) (h : SqL K H a xs) : SqL K H' a xs := by
  rcases h with (h | ⟨o, h⟩) | h
  · exact .inl (.inl (s.out _ _ m h))
  · exact .inl (.inr ⟨o, s.out _ _ m h⟩)
  · exact .inr h
theorem Go.seqT {a : Addr} {xs : List V} (s : Go M H H') (h : SqT K H a xs) : SqT K H' a xs := s.tups.seq h
end
mutual
inductive Dv (M : Addr → Prop) (K : PySem.W.Frag) (H : Hp) : V → PyData → Prop
  | non : Dv M K H .non .none
  | bl (b : Bool) : Dv M K H (.bl b) (.bool b)
  | int (i : Int) : Dv M K H (.int i) (.int i)
  | str (x : Str) : Dv M K H (.str x) (.str x)
  | lst {a : Addr} {xs : List V} {ds : List PyData} : ¬ M a → SqL K H a xs → DvAll M K H xs ds → Dv M K H (.ref a) (.list ds)
  | tup {a : Addr} {xs : List V} {ds : List PyData} : SqT K H a xs → DvAll M K H xs ds → Dv M K H (.ref a) (.tuple ds)
inductive DvAll (M : Addr → Prop) (K : PySem.W.Frag) (H : Hp) : List V → List PyData → Prop
  | nil : DvAll M K H [] []
  | cons {v : V} {vs : List V} {d : PyData} {ds : List PyData} : Dv M K H v d → DvAll M K H vs ds → DvAll M K H (v :: vs) (d :: ds)
end
section
variable {M M' : Addr → Prop} {K : PySem.W.Frag} {H H' : Hp}
mutual
theorem Dv.dp : ∀ {v : V} {d : PyData}, Dv M K H v d → Dp K H v d
  | _, _, .non => .non
  | _, _, .bl b => .bl b
  | _, _, .int i => .int i
  | _, _, .str x => .str x
  | _, _, .lst _ h a => .lst h a.dp
  | _, _, .tup h a => .tup h a.dp
theorem DvAll.dp : ∀ {vs : List V} {ds : List PyData}, DvAll M K H vs ds → DpAll K H vs ds
  | _, _, .nil => .nil
  | _, _, .cons h a => .cons h.dp a.dp
end
mutual
theorem Dv.stay (t : Go M H H') : ∀ {v : V} {d : PyData}, Dv M K H v d → Dv M K H' v d
  | _, _, .non => .non
  | _, _, .bl b => .bl b
  | _, _, .int i => .int i
  | _, _, .str x => .str x
  | _, _, .lst m h a => .lst m (t.seqL m h) (a.stay t)
  | _, _, .tup h a => .tup (t.seqT h) (a.stay t)
theorem DvAll.stay (t : Go M H H') : ∀ {vs : List V} {ds : List PyData}, DvAll M K H vs ds → DvAll M K H' vs ds
  | _, _, .nil => .nil
  | _, _, .cons h a => .cons (h.stay t) (a.stay t)
end
theorem DvAll.len : ∀ {vs : List V} {ds : List PyData}, DvAll M K H vs ds → vs.length = ds.length
  | _, _, .nil => rfl
  | _, _, .cons _ a => by rw [List.length_cons, List.length_cons, a.len]
theorem DvAll.at : ∀ {vs : List V} {ds : List PyData} {i : Nat} {d : PyData}, DvAll M K H vs ds → ds[i]? = some d → ∃ v, vs[i]? = some v ∧ Dv M K H v d
  | _, _, _, _, .nil, e => by simp at e
  | _, _, 0, _, .cons h _, e => by simp at e; subst e; exact ⟨_, rfl, h⟩
  | _, _, i + 1, d, .cons _ a, e => by simpa using a.at (i := i) (by simpa using e)
theorem DvAll.of : ∀ {vs : List V} {ds : List PyData} {i : Nat} {v : V}, DvAll M K H vs ds → vs[i]? = some v → ∃ d, ds[i]? = some d ∧ Dv M K H v d
  | _, _, _, _, .nil, e => by simp at e
  | _, _, 0, _, .cons h _, e => by simp at e; subst e; exact ⟨_, rfl, h⟩
  | _, _, i + 1, d, .cons _ a, e => by simpa using a.of (i := i) (by simpa using e)
theorem DvAll.app : ∀ {vs ws : List V} {ds es : List PyData}, DvAll M K H vs ds → DvAll M K H ws es → DvAll M K H (vs ++ ws) (ds ++ es)
  | _, _, _, _, .nil, b => b
  | _, _, _, _, .cons h a, b => .cons h (a.app b)
theorem DvAll.take : ∀ {vs : List V} {ds : List PyData} (n : Nat), DvAll M K H vs ds → DvAll M K H (vs.take n) (ds.take n)
  | _, _, 0, _ => .nil
  | _, _, _ + 1, .nil => .nil
  | _, _, n + 1, .cons h a => .cons h (a.take n)
theorem DvAll.drop : ∀ {vs : List V} {ds : List PyData} (n : Nat), DvAll M K H vs ds → DvAll M K H (vs.drop n) (ds.drop n)
  | _, _, 0, a => a
  | _, _, _ + 1, .nil => .nil
  | _, _, n + 1, .cons _ a => a.drop n
theorem DvAll.ints : ∀ (ns : List Int), DvAll M K H (ns.map V.int) (ns.map PyData.int)
  | [] => .nil
  | n :: ns => .cons (.int n) (DvAll.ints ns)
/-- the built-in type of data -/
def tyD : PyData → String
  | .none => "NoneType"
  | .bool _ => "bool"
  | .int _ => "int"
  | .str _ => "str"
  | .list _ => "list"
  | .tuple _ => "tuple"
  | .dict _ => "dict"
theorem tyx_lst {a : Addr} {xs : List V} (h : SqL K H a xs) : TyX K H (.ref a) (.type "list") := by
  rcases h with (h | ⟨o, h⟩) | ⟨o, its, n, hk, hc, _⟩
  · exact .base (.lst h)
  · exact .base (.frz h)
  · exact .kList hk hc
theorem tyx_tup {a : Addr} {xs : List V} (h : SqT K H a xs) : TyX K H (.ref a) (.type "tuple") := by
  rcases h with (h | ⟨o, h⟩) | ⟨o, its, n, hk, hc, _⟩
  · exact .base (.tup h)
  · exact .fTuple h
  · exact .kTuple hk hc
theorem Dv.ty {v : V} {d : PyData} (h : Dv M K H v d) : TyX K H v (.type (tyD d)) := by
  cases h with
  | non => exact .base .non
  | bl b => exact .base (.bl b)
  | int i => exact .base (.int i)
  | str x => exact .base (.str x)
  | lst _ h _ => exact tyx_lst h
  | tup h _ => exact tyx_tup h
/-- a dict with few keys, at the top of a value: what repr tells of it -/
def keyD : Key → PyData
  | .inl i => .int i
  | .inr x => .str x
/-- data, or a dict of such without lists -/
inductive Dq (M : Addr → Prop) (K : PySem.W.Frag) (H : Hp) : V → PyData → Prop
  | data {v : V} {d : PyData} : Dv M K H v d → Dq M K H v d
  | dct {a : Addr} {kvs : List (Key × V)} {ds : List PyData} : ¬ M a → H a = some (.dK kvs) → DtAll K H (kvs.map (·.2)) ds → Dq M K H (.ref a) (.dict ((kvs.map fun p => keyD p.1).zip ds))
end
section
variable {M : Addr → Prop} {K : PySem.W.Frag} {H H' : Hp}
mutual
theorem Dt.dv : ∀ {v : V} {d : PyData}, Dt K H v d → Dv M K H v d
  | _, _, .non => .non
  | _, _, .bl b => .bl b
  | _, _, .int i => .int i
  | _, _, .str x => .str x
  | _, _, .tup h a => .tup h a.dv
theorem DtAll.dv : ∀ {vs : List V} {ds : List PyData}, DtAll K H vs ds → DvAll M K H vs ds
  | _, _, .nil => .nil
  | _, _, .cons h a => .cons h.dv a.dv
end
theorem Dq.stay {v : V} {d : PyData} (t : Go M H H') (h : Dq M K H v d) : Dq M K H' v d := by
  cases h with
  | data h => exact .data (h.stay t)
  | dct m h a => exact .dct m (t.out _ _ m h) (a.stay t.tups)
theorem Dq.ty {v : V} {d : PyData} (h : Dq M K H v d) : TyX K H v (.type (tyD d)) := by
  cases h with
  | data h => exact h.ty
  | dct _ h _ => exact .base (.dK h)
end
section
variable {X : Cx} {pins : List (Addr × Obj)} {σ : L2.St} {H : Hp} {s : Shared} {M : Addr → Prop}
mutual
/-- data without lists is read without a list's place -/
theorem Dt.bare (I : Inv X pins σ H s) : ∀ (d : PyData) (v : V) (u : Value), Dt X.K H v d → RelV v u → Reads s.heap u d []
  | .none, _, _, h, r => by
    cases h
    cases r
    exact Reads.none
  | .bool b, _, _, h, r => by
    cases h
    cases r
    exact Reads.bool b
  | .int i, _, _, h, r => by
    cases h
    obtain ⟨t, rfl⟩ := r
    exact Reads.int i t
  | .str x, _, _, h, r => by
    cases h
    obtain ⟨t, rfl⟩ := r
    exact Reads.str x t
  | .tuple ds, _, _, h, r => by
    cases h with
    | tup hs ha =>
      cases r
      obtain ⟨its, rv, ⟨o, ho, hc, n, hd⟩, _⟩ := I.tuple hs
      exact Reads.tuple ho hc hd (DtAll.bare I ds _ its ha rv)
  | .list _, _, _, h, _ => by cases h
  | .dict _, _, _, h, _ => by cases h
theorem DtAll.bare (I : Inv X pins σ H s) : ∀ (ds : List PyData) (vs : List V) (us : List Value), DtAll X.K H vs ds → Vals vs us → ReadsAll s.heap us ds []
  | [], _, _, h, r => by
    cases h
    cases r
    exact ReadsAll.nil
  | d :: ds, _, _, h, r => by
    cases h with
    | cons h1 h2 =>
      cases r with
      | cons r1 r2 => exact ReadsAll.cons (Dt.bare I d _ _ h1 r1) (DtAll.bare I ds _ _ h2 r2)
end
/-- a dict's keys and values -/
theorem pairs_read {P : Program} {w : World} {kvs : List (Key × V)} {vs : List (Key × Value)} {es : List DictEntry} (kv : KV kvs vs) (ps : Pairs (mixKind P w) es vs) :
    Vals (kvs.map fun p => kV p.1) (es.map (·.key)) ∧ Vals (kvs.map (·.2)) (es.map (·.val)) := by
  induction ps generalizing kvs with
  | nil =>
    cases kv
    exact ⟨.nil, .nil⟩
  | cons hk hv _ ih =>
    cases kv with
    | cons r rr =>
      obtain ⟨i1, i2⟩ := ih rr
      obtain ⟨e1, e2⟩ := r
      refine ⟨.cons ?_ i1, .cons ?_ i2⟩
      · rw [← e1] at hk
        have hk' : keyIs _ _ = true := hk
        rcases keyIs_shape hk' with ⟨i, t, e, q⟩ | ⟨x, t, e, q⟩
        · show RelV (kV _) (DictEntry.key _)
          rw [e, q]
          exact ⟨t, rfl⟩
        · show RelV (kV _) (DictEntry.key _)
          rw [e, q]
          exact ⟨t, rfl⟩
      · show RelV (Prod.snd _) (DictEntry.val _)
        rw [hv]
        exact e2
theorem keys_dt {K : PySem.W.Frag} : ∀ kvs : List (Key × V), DtAll K H (kvs.map fun p => kV p.1) (kvs.map fun p => keyD p.1)
  | [] => .nil
  | (.inl i, v) :: r => .cons (.int i) (keys_dt r)
  | (.inr x, v) :: r => .cons (.str x) (keys_dt r)
/-- repr of such data -/
def rRepV (K : PySem.W.Frag) : List V → Hp → VK → Prop := fun xs H Q => ∃ (M : Addr → Prop) (v : V) (d : PyData), xs = [v] ∧ Dq M K H v d ∧ d.showable = true ∧ d.depth ≤ 60 ∧ d.shown.length ≤ sizeLine ∧ Q (.str d.shown) H
theorem call_repV (guard : X.A.guards = some []) (room : X.A.units + 64 < cLine) : CallR X (.builtin "repr") (rRepV X.K) := by
  intro pins s σ H xs us Q inv rel want
  obtain ⟨M, v, d, e, hd, h1, h2, h3, q⟩ := want
  cases hd with
  | data hd => exact call_rep guard room pins s σ H xs us Q inv rel ⟨v, d, e, hd.dp, h1, h2, h3, q⟩
  | @dct a kvs ds _ ha hv =>
    subst e
    cases rel with
    | cons r0 rr =>
      cases rr
      cases r0
      obtain ⟨_, sys, vs, kv, o, es, ep, ho, ex, hdat, _, ps, _⟩ := (show ObjOk X.prog X.w H s.heap a (.dK kvs) from inv.hok a _ ha)
      obtain ⟨r1, r2⟩ := pairs_read kv ps
      have k1 := DtAll.bare inv _ _ _ (keys_dt kvs) r1
      have k2 := DtAll.bare inv _ _ _ hv r2
      have len : (kvs.map fun p => keyD p.1).length = ds.length := by rw [List.length_map, ← hv.len, List.length_map]
      have z1 : ((kvs.map fun p => keyD p.1).zip ds).map (·.1) = kvs.map fun p => keyD p.1 := List.map_fst_zip (by rw [len]; exact Nat.le_refl _)
      have z2 : ((kvs.map fun p => keyD p.1).zip ds).map (·.2) = ds := List.map_snd_zip (by rw [len]; exact Nat.le_refl _)
      have reads : Reads s.heap (.ref a) (.dict ((kvs.map fun p => keyD p.1).zip ds)) (a :: [] ++ []) := Reads.dict ho ex.1 hdat (by rw [z1]; exact k1) (by rw [z2]; exact k2)
      refine repr_of_reads' reads h1 (fun _ mem => ?_) guard (by omega) (fun _ _ z => z) (fun h' u' tk keep => ⟨.str _, H, inv.kept keep, ⟨_, rfl⟩, q⟩) h3
      have e : sysModules = a := by simpa using mem
      rw [e] at sys
      simp at sys
end
end LG
namespace LG
open PySem PySem.Spec PyProof.Rows L2
section
variable {M : Addr → Prop} {K : PySem.W.Frag} {H H' : Hp}
/-- what was made since is changed -/
theorem Go.own {p : Addr} (g : Go M H H') (h : H p = none) (o : HO) : Go M H (L2.upd H' p o) := ⟨fun b u m e => by
  rw [upd_ne (ne_of_none e h)]
  exact g.out b u m e, fun b u k e => by
  rw [upd_ne (ne_of_none e h)]
  exact g.tups b u k e⟩
theorem Hand.off {h d p : Addr} {ds : List Int} {n : Nat} (x : Hand H h d ds n) (hp : p ≠ h) (dp : p ≠ d) (o : HO) : Hand (L2.upd H p o) h d ds n := ⟨by rw [upd_ne hp.symm]; exact x.1, by rw [upd_ne dp.symm]; exact x.2⟩
theorem Hand.go {h d : Addr} {ds : List Int} {n : Nat} (x : Hand H h d ds n) : Go (· = h) H (L2.upd H h (.lst [.ref d, .int ((n + 1 : Nat) : Int)])) := Go.put rfl x.1
theorem Hand.new {h d p : Addr} {ds : List Int} {n : Nat} (x : Hand H h d ds n) (hp : H p = none) (o : HO) : Hand (L2.upd H p o) h d ds n := x.same (same_new hp o)
theorem at_any {α : Type} {xs : List α} {i : Int} (h0 : -(xs.length : Int) ≤ i) (h1 : i < (xs.length : Int)) : ∃ (j : Nat) (y : α), xs[j]? = some y ∧ atI xs i = some y := by
  by_cases h : 0 ≤ i
  · have lt : i.toNat < xs.length := by omega
    refine ⟨i.toNat, xs[i.toNat], by simp [lt], ?_⟩
    unfold atI ixN
    rw [if_pos h, if_pos h1]
    simp [lt]
  · have lt : (i + (xs.length : Int)).toNat < xs.length := by omega
    refine ⟨(i + (xs.length : Int)).toNat, xs[(i + (xs.length : Int)).toNat], by simp [lt], ?_⟩
    unfold atI ixN
    rw [if_neg h, if_pos h0]
    simp [lt]
/-- some item of a row of data -/
theorem DvAll.pick {xs : List V} {ds : List PyData} {i : Int} (a : DvAll M K H xs ds) (h0 : -(ds.length : Int) ≤ i) (h1 : i < (ds.length : Int)) : ∃ y e, atI xs i = some y ∧ e ∈ ds ∧ Dv M K H y e := by
  rw [← a.len] at h0 h1
  obtain ⟨j, y, hj, hy⟩ := at_any h0 h1
  obtain ⟨e, he, d⟩ := a.of hj
  exact ⟨y, e, hy, List.mem_of_getElem? he, d⟩
theorem DtAll.pick {xs : List V} {ds : List PyData} {i : Int} (a : DtAll K H xs ds) (h0 : -(ds.length : Int) ≤ i) (h1 : i < (ds.length : Int)) : ∃ y e, atI xs i = some y ∧ e ∈ ds ∧ Dt K H y e := by
  rw [← a.len] at h0 h1
  obtain ⟨j, y, hj, hy⟩ := at_any h0 h1
  obtain ⟨e, he, d⟩ := a.of hj
  exact ⟨y, e, hy, List.mem_of_getElem? he, d⟩
inductive DqAll (M : Addr → Prop) (K : PySem.W.Frag) (H : Hp) : List V → List PyData → Prop
  | nil : DqAll M K H [] []
  | cons {v : V} {vs : List V} {d : PyData} {ds : List PyData} : Dq M K H v d → DqAll M K H vs ds → DqAll M K H (v :: vs) (d :: ds)
theorem DqAll.len : ∀ {vs : List V} {ds : List PyData}, DqAll M K H vs ds → vs.length = ds.length
  | _, _, .nil => rfl
  | _, _, .cons _ a => by rw [List.length_cons, List.length_cons, a.len]
theorem DqAll.of : ∀ {vs : List V} {ds : List PyData} {i : Nat} {v : V}, DqAll M K H vs ds → vs[i]? = some v → ∃ d, ds[i]? = some d ∧ Dq M K H v d
  | _, _, _, _, .nil, e => by simp at e
  | _, _, 0, _, .cons h _, e => by simp at e; subst e; exact ⟨_, rfl, h⟩
  | _, _, i + 1, d, .cons _ a, e => by simpa using a.of (i := i) (by simpa using e)
theorem DqAll.pick {xs : List V} {ds : List PyData} {i : Int} (a : DqAll M K H xs ds) (h0 : -(ds.length : Int) ≤ i) (h1 : i < (ds.length : Int)) : ∃ y e, atI xs i = some y ∧ e ∈ ds ∧ Dq M K H y e := by
  rw [← a.len] at h0 h1
  obtain ⟨j, y, hj, hy⟩ := at_any h0 h1
  obtain ⟨e, he, d⟩ := a.of hj
  exact ⟨y, e, hy, List.mem_of_getElem? he, d⟩
theorem DqAll.stay (t : Go M H H') : ∀ {vs : List V} {ds : List PyData}, DqAll M K H vs ds → DqAll M K H' vs ds
  | _, _, .nil => .nil
  | _, _, .cons h a => .cons (h.stay t) (a.stay t)
/-- two parts -/
theorem sized_two {m1 m2 h1 h2 : Nat} {a b : PyData} (sa : Sized m1 h1 a) (sb : Sized m2 h2 b) : Sized (m1 + m2 + 2) (max h1 h2 + 1) (.tuple [a, b]) := by
  obtain ⟨a1, a2, a3, a4⟩ := sa
  obtain ⟨b1, b2, b3, b4⟩ := sb
  refine ⟨?_, ?_, ?_, ?_⟩
  · simp only [PyData.leavesShort, PyData.leavesShortAll, a1, b1, Bool.and_self]
  · simp only [PyData.showable, PyData.showableAll, a2, b2, Bool.and_self]
  · simp only [PyData.depth, PyData.depthAll]
    omega
  · simp only [PyData.bulk, PyData.bulkAll]
    omega
theorem sized_str (x : Str) (h : (x.cps.toList.all fun c => decide (c < 16 ^ 8)) = true) (n : Nat) (hn : x.cps.size ≤ n) : Sized n 0 (.str x) := ⟨by simp only [PyData.leavesShort]; exact h, by simp only [PyData.showable], by simp only [PyData.depth]; omega, by simp only [PyData.bulk]; exact hn⟩
end
end LG
/-! ### tuples of ints: order, sorting; membership -/
namespace LG
open PySem PySem.Spec PyProof.Rows L2
/-- a row of ints as data -/
def tupI (r : List Int) : PyData := .tuple (r.map PyData.int)
section
variable {X : Cx}
theorem dp_row {K : PySem.W.Frag} {H : Hp} {a : Addr} {ns : List Int} (h : SqT K H a (ns.map V.int)) : Dp K H (.ref a) (tupI ns) := .tup h (DtAll.ints ns).dp
theorem row_depth (ns : List Int) : (tupI ns).depth = 1 := by
  unfold tupI
  simp only [PyData.depth, PySem.W.depth_ints]
theorem row_lt (ns ms : List Int) : PySem.W.dataLt (tupI ns) (tupI ms) = decide (ns < ms) := by
  rw [← PySem.W.dataLt_ints]
  exact PySem.W.dataLt_tuple _ _
theorem row_alike (ns ms : List Int) : PySem.W.alike (tupI ns) (tupI ms) = true := by
  unfold tupI
  rw [PySem.W.alike]
  exact PySem.W.alike_ints ns ms
/-- x >= y, rows of ints -/
def rGeR (K : PySem.W.Frag) : R2 := fun x y H Q => ∃ (a b : Addr) (ns ms : List Int), x = .ref a ∧ y = .ref b ∧ SqT K H a (ns.map V.int) ∧ SqT K H b (ms.map V.int) ∧ Q (.bl (!decide (ns < ms))) H
theorem op_geR (hu : X.A.units + 64 < cLine) : OpR X (compareOp .GtE) (rGeR X.K) := by
  intro pins s σ H x y v u Q I rx ry h
  obtain ⟨a, b, ns, ms, rfl, rfl, ha, hb, q⟩ := h
  obtain ⟨as, r1⟩ := Dp.reads I _ _ v (dp_row ha) rx
  obtain ⟨bs, r2⟩ := Dp.reads I _ _ u (dp_row hb) ry
  exact PySem.W.ge_data r1 r2 (row_alike ns ms) (by unfold tupI; exact nofun) (by rw [row_depth]; omega) ⟨.bl _, H, I, rfl, by rw [row_lt]; exact q⟩
def rLtR (K : PySem.W.Frag) : R2 := fun x y H Q => ∃ (a b : Addr) (ns ms : List Int), x = .ref a ∧ y = .ref b ∧ SqT K H a (ns.map V.int) ∧ SqT K H b (ms.map V.int) ∧ Q (.bl (decide (ns < ms))) H
theorem op_ltR (hu : X.A.units + 64 < cLine) : OpR X (compareOp .Lt) (rLtR X.K) := by
  intro pins s σ H x y v u Q I rx ry h
  obtain ⟨a, b, ns, ms, rfl, rfl, ha, hb, q⟩ := h
  obtain ⟨as, r1⟩ := Dp.reads I _ _ v (dp_row ha) rx
  obtain ⟨bs, r2⟩ := Dp.reads I _ _ u (dp_row hb) ry
  exact PySem.W.lt_data r1 r2 (row_alike ns ms) (by unfold tupI; exact nofun) (by rw [row_depth]; omega) ⟨.bl _, H, I, rfl, by rw [row_lt]; exact q⟩
/-- x in t, t a tuple of data -/
def rInTD (K : PySem.W.Frag) : R2 := fun x y H Q => ∃ d ds, Dp K H x d ∧ Dp K H y (.tuple ds) ∧ SeqAt.shaped d = true ∧ SeqAt.shaped (.list ds) = true ∧ Q (.bl (ds.any fun z => PyData.eqv z d)) H
theorem op_inTD (hu : X.A.units + 65 < cLine) : OpR X (compareOp .In) (rInTD X.K) := by
  intro pins s σ H x y v u Q I rx ry h
  obtain ⟨d, ds, hd, he, sd, se, q⟩ := h
  obtain ⟨as, r1⟩ := Dp.reads I d x v hd rx
  obtain ⟨bs, r2⟩ := Dp.reads I (.tuple ds) y u he ry
  exact SeqAt.in_tuple_reads r2 r1 (SeqAt.canLay_of_shaped se) (SeqAt.canLay_of_shaped sd) (room_in_shaped sd hu) ⟨.bl _, H, I, rfl, q⟩
/-- the order of sorting -/
def leR (a b : List Int) : Bool := !decide (b < a)
def rSortR (K : PySem.W.Frag) : List V → Hp → VK → Prop := fun vs H Q => ∃ (a : Addr) (xs : List V) (rs : List (List Int)), vs = [V.ref a] ∧ SqL K H a xs ∧ DtAll K H xs (rs.map tupI) ∧ rs.length ≤ 1000 ∧ (∀ r ∈ rs, r ≠ []) ∧
  ∀ (ys : List V) (p : Addr), H p = none → DtAll K H ys ((rs.mergeSort leR).map tupI) → Q (.ref p) (upd H p (.lst ys))
theorem each_of {K : PySem.W.Frag} {H : Hp} : ∀ {rs : List (List Int)} {xs : List V} {us : List Value}, DtAll K H xs (rs.map tupI) → Vals xs us → PySem.W.EachIs (fun u r => ∃ t, u = Value.ref t ∧ SqT K H t (r.map V.int)) us rs
  | [], _, _, h, r => by
    cases h
    cases r
    exact .nil
  | b :: bs, _, _, h, r => by
    cases h with
    | cons h1 h2 =>
      cases r with
      | cons r1 r2 =>
        refine .cons ?_ (each_of h2 r2)
        cases h1 with
        | @tup a ys ds hs ha =>
          cases r1
          refine ⟨a, rfl, ?_⟩
          have e : ys = b.map V.int := by
            clear hs h2 r2
            induction b generalizing ys with
            | nil => cases ha; rfl
            | cons x b ih =>
              cases ha with
              | cons h h' =>
                cases h
                rw [List.map_cons, ← ih h']
          rw [← e]
          exact hs
theorem each_back {K : PySem.W.Frag} {H : Hp} : ∀ {rs : List (List Int)} {us : List Value}, PySem.W.EachIs (fun u r => ∃ t, u = Value.ref t ∧ SqT K H t (r.map V.int)) us rs → ∃ ys, Vals ys us ∧ DtAll K H ys (rs.map tupI)
  | [], _, .nil => ⟨[], .nil, .nil⟩
  | b :: bs, _, .cons ⟨t, e, h⟩ r => by
    obtain ⟨ys, v, d⟩ := each_back r
    subst e
    exact ⟨.ref t :: ys, .cons rfl v, .cons (.tup h (DtAll.ints b)) d⟩
theorem cr_sortR (hu : X.A.units + 64 < cLine) : CallR X (.builtin "sorted") (rSortR X.K) := by
  intro pins s σ H vs us Q I r h
  obtain ⟨a, xs, rs, rfl, hs, hd, hz, ne, q⟩ := h
  obtain ⟨its, rv, hl, hz2⟩ := I.list hs
  rw [Vals.ref1 r]
  have ea := each_of hd rv
  have er : PySem.W.EachIs (fun v b => ∃ as, Reads s.heap v (tupI b) as) its rs := ea.mono fun u b ⟨t, e, ht⟩ => by
    subst e
    exact Dp.reads I _ _ _ (dp_row ht) rfl
  have al : PySem.W.AllAlike (rs.map tupI) := fun d hd d' hd' => by
    obtain ⟨x, _, rfl⟩ := List.mem_map.mp hd
    obtain ⟨y, _, rfl⟩ := List.mem_map.mp hd'
    exact row_alike x y
  have so : PySem.W.Sortable (rs.map tupI) := .inl fun d hd => by
    obtain ⟨x, hx, rfl⟩ := List.mem_map.mp hd
    cases x with
    | nil => exact absurd rfl (ne _ hx)
    | cons i x => exact ⟨_, _, rfl⟩
  refine PySem.W.sorted_data hl.isList ea er al so (Nat.le_trans hz (by decide)) (fun b _ => by rw [row_depth]; omega) fun out hlen hout => ?_
  have eo : PySem.W.dataLe false tupI = leR := by
    rw [PySem.W.dataLe_eq]
    funext x y
    simp only [cond_false, row_lt]
    rfl
  rw [eo] at hout
  obtain ⟨ys, vy, dy⟩ := each_back hout
  obtain ⟨ep, he'⟩ := PyProof.Rows.sortedAll_at s.heap its out.toArray
  have len : ys.length ≤ sizeLine := by
    rw [vy.length, hlen]
    exact Nat.le_trans hz (by decide)
  exact ⟨.ref _, upd H (s.heap.objs.size + 1) (.lst ys), I.laid (t' := s.toks) (fun _ _ => PyProof.Rows.sortedAll_old) (Nat.le_succ _) ⟨len, out, ep, vy, he'⟩, rfl, q _ _ (I.hok.fresh (Nat.le_succ _)) dy⟩
end
end LG
/-! ### data with dicts at any place -/
namespace LG
open PySem PySem.Spec PyProof.Rows L2
mutual
inductive Dn (M : Addr → Prop) (K : PySem.W.Frag) (H : Hp) : V → PyData → Prop
  | non : Dn M K H .non .none
  | bl (b : Bool) : Dn M K H (.bl b) (.bool b)
  | int (i : Int) : Dn M K H (.int i) (.int i)
  | str (x : Str) : Dn M K H (.str x) (.str x)
  | lst {a : Addr} {xs : List V} {ds : List PyData} : ¬ M a → H a = some (.lst xs) → DnAll M K H xs ds → Dn M K H (.ref a) (.list ds)
  | tup {a : Addr} {xs : List V} {ds : List PyData} : SqT K H a xs → DnAll M K H xs ds → Dn M K H (.ref a) (.tuple ds)
  | dct {a : Addr} {kvs : List (Key × V)} {ds : List PyData} : ¬ M a → H a = some (.dK kvs) → DnAll M K H (kvs.map (·.2)) ds → Dn M K H (.ref a) (.dict ((kvs.map fun p => keyD p.1).zip ds))
inductive DnAll (M : Addr → Prop) (K : PySem.W.Frag) (H : Hp) : List V → List PyData → Prop
  | nil : DnAll M K H [] []
  | cons {v : V} {vs : List V} {d : PyData} {ds : List PyData} : Dn M K H v d → DnAll M K H vs ds → DnAll M K H (v :: vs) (d :: ds)
end
section
variable {M M' : Addr → Prop} {K : PySem.W.Frag} {H H' : Hp}
mutual
theorem Dt.dn : ∀ {v : V} {d : PyData}, Dt K H v d → Dn M K H v d
  | _, _, .non => .non
  | _, _, .bl b => .bl b
  | _, _, .int i => .int i
  | _, _, .str x => .str x
  | _, _, .tup h a => .tup h a.dn
theorem DtAll.dn : ∀ {vs : List V} {ds : List PyData}, DtAll K H vs ds → DnAll M K H vs ds
  | _, _, .nil => .nil
  | _, _, .cons h a => .cons h.dn a.dn
end
mutual
theorem Dn.stay (t : Go M H H') : ∀ {v : V} {d : PyData}, Dn M K H v d → Dn M K H' v d
  | _, _, .non => .non
  | _, _, .bl b => .bl b
  | _, _, .int i => .int i
  | _, _, .str x => .str x
  | _, _, .lst m h a => .lst m (t.out _ _ m h) (a.stay t)
  | _, _, .tup h a => .tup (t.seqT h) (a.stay t)
  | _, _, .dct m h a => .dct m (t.out _ _ m h) (a.stay t)
theorem DnAll.stay (t : Go M H H') : ∀ {vs : List V} {ds : List PyData}, DnAll M K H vs ds → DnAll M K H' vs ds
  | _, _, .nil => .nil
  | _, _, .cons h a => .cons (h.stay t) (a.stay t)
end
theorem DnAll.len : ∀ {vs : List V} {ds : List PyData}, DnAll M K H vs ds → vs.length = ds.length
  | _, _, .nil => rfl
  | _, _, .cons _ a => by rw [List.length_cons, List.length_cons, a.len]
theorem DnAll.at : ∀ {vs : List V} {ds : List PyData} {i : Nat} {d : PyData}, DnAll M K H vs ds → ds[i]? = some d → ∃ v, vs[i]? = some v ∧ Dn M K H v d
  | _, _, _, _, .nil, e => by simp at e
  | _, _, 0, _, .cons h _, e => by simp at e; subst e; exact ⟨_, rfl, h⟩
  | _, _, i + 1, d, .cons _ a, e => by simpa using a.at (i := i) (by simpa using e)
theorem DnAll.of : ∀ {vs : List V} {ds : List PyData} {i : Nat} {v : V}, DnAll M K H vs ds → vs[i]? = some v → ∃ d, ds[i]? = some d ∧ Dn M K H v d
  | _, _, _, _, .nil, e => by simp at e
  | _, _, 0, _, .cons h _, e => by simp at e; subst e; exact ⟨_, rfl, h⟩
  | _, _, i + 1, d, .cons _ a, e => by simpa using a.of (i := i) (by simpa using e)
theorem DnAll.app : ∀ {vs ws : List V} {ds es : List PyData}, DnAll M K H vs ds → DnAll M K H ws es → DnAll M K H (vs ++ ws) (ds ++ es)
  | _, _, _, _, .nil, b => b
  | _, _, _, _, .cons h a, b => .cons h (a.app b)
theorem DnAll.take : ∀ {vs : List V} {ds : List PyData} (n : Nat), DnAll M K H vs ds → DnAll M K H (vs.take n) (ds.take n)
  | _, _, 0, _ => .nil
  | _, _, _ + 1, .nil => .nil
  | _, _, n + 1, .cons h a => .cons h (a.take n)
theorem DnAll.drop : ∀ {vs : List V} {ds : List PyData} (n : Nat), DnAll M K H vs ds → DnAll M K H (vs.drop n) (ds.drop n)
  | _, _, 0, a => a
  | _, _, _ + 1, .nil => .nil
  | _, _, n + 1, .cons _ a => a.drop n
theorem DnAll.pick {xs : List V} {ds : List PyData} {i : Int} (a : DnAll M K H xs ds) (h0 : -(ds.length : Int) ≤ i) (h1 : i < (ds.length : Int)) : ∃ y e, atI xs i = some y ∧ e ∈ ds ∧ Dn M K H y e := by
  rw [← a.len] at h0 h1
  obtain ⟨j, y, hj, hy⟩ := at_any h0 h1
  obtain ⟨e, he, d⟩ := a.of hj
  exact ⟨y, e, hy, List.mem_of_getElem? he, d⟩
theorem Dn.ty {v : V} {d : PyData} (h : Dn M K H v d) : TyX K H v (.type (tyD d)) := by
  cases h with
  | non => exact .base .non
  | bl b => exact .base (.bl b)
  | int i => exact .base (.int i)
  | str x => exact .base (.str x)
  | lst _ h _ => exact tyx_lst (SqL.of h)
  | tup h _ => exact tyx_tup h
  | dct _ h _ => exact .base (.dK h)
theorem dn_tup {x : V} {ds : List PyData} (h : Dn M K H x (.tuple ds)) : ∃ a xs, x = .ref a ∧ SqT K H a xs ∧ DnAll M K H xs ds := by
  cases h with
  | tup h1 h2 => exact ⟨_, _, rfl, h1, h2⟩
theorem dn_int {x : V} {i : Int} (h : Dn M K H x (.int i)) : x = .int i := by
  cases h
  rfl
theorem dn_str {x : V} {i : Str} (h : Dn M K H x (.str i)) : x = .str i := by
  cases h
  rfl
/-- without dicts it is the library's data -/
theorem Dn.dp : ∀ (d : PyData) {v : V}, d.hasDict = false → Dn M K H v d → Dp K H v d
  | .none, _, _, .non => .non
  | .bool b, _, _, .bl _ => .bl b
  | .int i, _, _, .int _ => .int i
  | .str x, _, _, .str _ => .str x
  | .list ds, _, n, .lst _ h a => .lst (SqL.of h) (go ds (by simpa only [PyData.hasDict] using n) a)
  | .tuple ds, _, n, .tup h a => .tup h (go ds (by simpa only [PyData.hasDict] using n) a)
  | .dict _, _, n, _ => by simp [PyData.hasDict] at n
where go : ∀ (ds : List PyData) {vs : List V}, PyData.hasDictAll ds = false → DnAll M K H vs ds → DpAll K H vs ds
  | [], _, _, .nil => .nil
  | d :: ds, _, n, .cons h a => by
    simp only [PyData.hasDictAll, Bool.or_eq_false_iff] at n
    exact .cons (Dn.dp d n.1 h) (go ds n.2 a)
/-- the table of modules is no list of ours -/
def Sys (K : PySem.W.Frag) (H : Hp) : Prop := ∃ o u, H sysModules = some (.frz o u)
theorem Sys.same (s : Sys K H) (e : Same H H') : Sys K H' := by
  obtain ⟨o, u, h⟩ := s
  exact ⟨o, u, e _ _ h⟩
theorem Sys.go (s : Sys K H) (e : Go M H H') (m : ¬ M sysModules) : Sys K H' := by
  obtain ⟨o, u, h⟩ := s
  exact ⟨o, u, e.out _ _ m h⟩
theorem Sys.lst (s : Sys K H) {a : Addr} {xs : List V} (h : H a = some (.lst xs)) : sysModules ≠ a := by
  obtain ⟨o, u, e⟩ := s
  rintro rfl
  rw [e] at h
  cases h
theorem Sys.ne (s : Sys K H) {a : Addr} {xs : List V} (h : H a = some (.lst xs)) : ¬ sysModules = a := s.lst h
end
section
variable {X : Cx} {pins : List (Addr × Obj)} {σ : L2.St} {H : Hp} {s : Shared} {M : Addr → Prop}
mutual
theorem Dn.reads (I : Inv X pins σ H s) (S : Sys X.K H) : ∀ {v : V} {d : PyData}, Dn M X.K H v d → ∀ u : Value, RelV v u → ∃ as, Reads s.heap u d as ∧ sysModules ∉ as
  | _, _, .non, _, r => by
    cases r
    exact ⟨_, Reads.none, List.not_mem_nil⟩
  | _, _, .bl b, _, r => by
    cases r
    exact ⟨_, Reads.bool b, List.not_mem_nil⟩
  | _, _, .int i, _, r => by
    obtain ⟨t, rfl⟩ := r
    exact ⟨_, Reads.int i t, List.not_mem_nil⟩
  | _, _, .str x, _, r => by
    obtain ⟨t, rfl⟩ := r
    exact ⟨_, Reads.str x t, List.not_mem_nil⟩
  | _, _, .lst _ hs ha, _, r => by
    cases r
    obtain ⟨its, rv, ⟨o, n, ho, hc, _, hd⟩, _⟩ := I.list (SqL.of hs)
    obtain ⟨as, q1, q2⟩ := DnAll.reads I S ha its rv
    refine ⟨_, Reads.list ho hc hd (by simpa using q1), ?_⟩
    rw [List.mem_cons]
    rintro (e | e)
    · exact S.lst hs e
    · exact q2 e
  | _, _, .tup hs ha, _, r => by
    cases r
    obtain ⟨its, rv, ⟨o, ho, hc, n, hd⟩, _⟩ := I.tuple hs
    obtain ⟨as, q1, q2⟩ := DnAll.reads I S ha its rv
    exact ⟨_, Reads.tuple ho hc hd (by simpa using q1), q2⟩
  | _, _, .dct (a := a) (kvs := kvs) (ds := ds) _ hH ha, _, r => by
    cases r
    obtain ⟨_, sys, vs, kv, o, es, ep, ho, ex, hdat, _, ps, _⟩ := (show ObjOk X.prog X.w H s.heap a (.dK kvs) from I.hok a _ hH)
    obtain ⟨r1, r2⟩ := pairs_read kv ps
    have k1 := DtAll.bare I _ _ _ (keys_dt kvs) r1
    have len : (kvs.map fun p => keyD p.1).length = ds.length := by rw [List.length_map, ← ha.len, List.length_map]
    have z1 : ((kvs.map fun p => keyD p.1).zip ds).map (·.1) = kvs.map fun p => keyD p.1 := List.map_fst_zip (by rw [len]; exact Nat.le_refl _)
    have z2 : ((kvs.map fun p => keyD p.1).zip ds).map (·.2) = ds := List.map_snd_zip (by rw [len]; exact Nat.le_refl _)
    obtain ⟨as, q1, q2⟩ := DnAll.reads I S ha _ r2
    refine ⟨_, Reads.dict ho ex.1 hdat (by rw [z1]; exact k1) (by rw [z2]; exact q1), ?_⟩
    rw [List.mem_append, List.mem_singleton]
    rintro (e | e)
    · rw [← e] at sys
      simp at sys
    · exact q2 e
theorem DnAll.reads (I : Inv X pins σ H s) (S : Sys X.K H) : ∀ {vs : List V} {ds : List PyData}, DnAll M X.K H vs ds → ∀ us : List Value, Vals vs us → ∃ as, ReadsAll s.heap us ds as ∧ sysModules ∉ as
  | _, _, .nil, _, r => by
    cases r
    exact ⟨_, ReadsAll.nil, List.not_mem_nil⟩
  | _, _, .cons h1 h2, _, r => by
    cases r with
    | cons r1 r2 =>
      obtain ⟨as, q1, n1⟩ := Dn.reads I S h1 _ r1
      obtain ⟨bs, q2, n2⟩ := DnAll.reads I S h2 _ r2
      refine ⟨_, ReadsAll.cons q1 q2, ?_⟩
      rw [List.mem_append]
      rintro (e | e)
      · exact n1 e
      · exact n2 e
end
end
section
variable {X : Cx}
/-- repr of such data -/
def rRepN (K : PySem.W.Frag) : List V → Hp → VK → Prop := fun xs H Q => ∃ (M : Addr → Prop) (v : V) (d : PyData), xs = [v] ∧ Dn M K H v d ∧ Sys K H ∧ d.showable = true ∧ d.depth ≤ 60 ∧ d.shown.length ≤ sizeLine ∧ Q (.str d.shown) H
theorem call_repN (guard : X.A.guards = some []) (room : X.A.units + 64 < cLine) : CallR X (.builtin "repr") (rRepN X.K) := by
  intro pins s σ H xs us Q inv rel want
  obtain ⟨M, v, d, rfl, hd, S, h1, h2, h3, q⟩ := want
  cases rel with
  | cons r0 rr =>
  rename_i u us'
  cases rr
  obtain ⟨as, reads, no⟩ := Dn.reads inv S hd u r0
  have dict : d.hasDict = true → sysModules ∉ as := fun _ => no
  cases hd with
  | non =>
    cases r0
    exact PySem.P.repr_of_none ⟨.str _, H, inv.tok _, ⟨_, rfl⟩, by simpa only [PyData.shown] using q⟩
  | bl b =>
    cases r0
    refine PySem.P.repr_of_bool ⟨.str _, H, inv.tok _, ⟨_, rfl⟩, by simpa only [PyData.shown] using q⟩
  | int i =>
    obtain ⟨t, rfl⟩ := r0
    exact PySem.P.repr_of_int (by simpa [PyData.showable] using h1) ⟨.str _, H, inv.tok _, ⟨_, rfl⟩, by simpa only [PyData.shown] using q⟩
  | str x =>
    obtain ⟨t, rfl⟩ := r0
    exact PySem.P.repr_of_str ⟨.str _, H, inv.tok _, ⟨_, rfl⟩, by simpa only [PyData.shown] using q⟩ (by simpa only [PyData.shown] using h3)
  | lst _ _ _ =>
    cases r0
    exact repr_of_reads' reads h1 dict guard (by omega) (fun _ _ z => z) (fun h' u' tk keep => ⟨.str _, H, inv.kept keep, ⟨_, rfl⟩, q⟩) h3
  | tup _ _ =>
    cases r0
    exact repr_of_reads' reads h1 dict guard (by omega) (fun _ _ z => z) (fun h' u' tk keep => ⟨.str _, H, inv.kept keep, ⟨_, rfl⟩, q⟩) h3
  | dct _ _ _ =>
    cases r0
    exact repr_of_reads' reads h1 dict guard (by omega) (fun _ _ z => z) (fun h' u' tk keep => ⟨.str _, H, inv.kept keep, ⟨_, rfl⟩, q⟩) h3
end
end LG
/-! ### the end, the table of modules told apart -/
namespace LG
open PySem PySem.W PySem.Spec PyProof.Rows L2
section
variable {P : Program} {w : World} {K : PySem.W.Frag} {mg mb : Str → Option Value} {k : Nat} {fa a : Addr} {fd : FuncData} {x : Str} {sp : Sp} {s : Shared} {vs : List Value} {ns : List Int}
theorem endS_from (inK : K.In s.heap) (mains : s.heap.Ns mainGlobals mg) (blts : s.heap.Ns builtinsNs mb) (boot : ∀ y : Str, y ≠ "__name__" → mb y = bootBuiltins y) (noLim : s.heap.NoLimit) (gens : s.gens = #[])
    (obj : s.heap.get? a = some { cls := .type "list", data := .seq vs.toArray }) (room : Room k callerA) (goesF : ∀ base : Heap, K.In base → base.Ns mainGlobals mg → FnG P w K mg base k fa fd [x] sp)
    (bind : ∀ (s : Shared) (u : Value), BindsTo s fd ⟨[u], []⟩ [(x, u)]) (H : Hp) (only : ∀ b, H b = none ∨ ∃ o u, H b = some (.frz o u)) (held : HOk P w H s.heap) (alone : ∀ b, H b ≠ none → b = a ∨ b = sysModules) (away : ∀ b, H b ≠ none → K.lookup b = none)
    (want : sp [.ref a] H (fun v _ => v = .bl true) E0) :
    codeAny (model P w) callerA (.call (.ref fa) ⟨[.ref a], []⟩) (fun r s' => r = .ok (.ret (.bool true)) ∧ OldK s.heap s'.heap ∧ s'.os = s.os ∧ AllBare s'.gens) s := by
  have space : ∀ {b : Addr} {m : Str → Option Value}, b ≠ sysModules → s.heap.Ns b m → (hidT s.heap H).Ns b m := fun {b m} nb ⟨o, es, ep, e, d, more⟩ =>
    ⟨o, es, ep, hidT_get e (by
      cases q : H b with
      | none => rfl
      | some u =>
        rcases alone b (by rw [q]; exact nofun) with here | here
        · rw [here, obj] at e
          have e2 := Option.some.inj e
          rw [← e2] at d
          exact nomatch d
        · exact absurd here nb), d, more⟩
  have baseK : K.In (hidT s.heap H) := fun b o e => hidT_get (inK b o e) (by
    cases q : H b with
    | none => rfl
    | some u =>
      have no := away b (by rw [q]; exact nofun)
      rw [no] at e
      exact nomatch e)
  have lim : (hidT s.heap H).NoLimit := by
    obtain ⟨mc, h1, h2⟩ := noLim
    exact ⟨mc, space (by decide) h1, h2⟩
  have mains2 := space (by decide) mains
  have modu : Mod K mg (hidT s.heap H) := ⟨baseK, mains2, ⟨mb, space (by decide) blts, boot⟩, lim⟩
  have e0 : Env0 P w K mg (hidT s.heap H) callerA [] s H := ⟨rfl, modu, fun _ _ e => of_hidT e, Nat.le_of_eq (hidT_size _ _), trivial, (fun _ hb => absurd (show _ ∈ ([] : List Addr) from hb) List.not_mem_nil), held, .of_eq gens⟩
  refine codeAny_mono ((goesF _ baseK mains2).goes callerA [] s H [.ref a] [.ref a] _ E0 rfl room e0 (bind s (.ref a)) (.cons rfl .nil) want) fun r s' got => ?_
  cases r with
  | error _ => exact False.elim got
  | ok flow =>
  cases flow with
  | next => exact False.elim got
  | brk => exact False.elim got
  | cont => exact False.elim got
  | ret u =>
    obtain ⟨v, H', sameOs, bare, un, held', rel, yes⟩ := got
    have yes' : v = .bl true := yes
    subst yes'
    obtain rfl : u = Value.bool true := rel
    refine ⟨rfl, OldK.of_keep fun b o e => ?_, sameOs, bare⟩
    rcases only b with free | ⟨ob, xs, fz⟩
    · exact un.keep b o e free (fun z => nomatch z) (fun z => nomatch z)
    · obtain ⟨e1, _⟩ := held b _ fz
      obtain ⟨e2, _⟩ := held' b _ (un.frzs b ob _ fz)
      rw [e2, ← e1, e]
theorem endS_call (inK : K.In s.heap) (mains : s.heap.Ns mainGlobals mg) (blts : s.heap.Ns builtinsNs mb) (boot : ∀ y : Str, y ≠ "__name__" → mb y = bootBuiltins y) (noLim : s.heap.NoLimit) (gens : s.gens = #[])
    (obj : s.heap.get? a = some { cls := .type "list", data := .seq vs.toArray }) (numbs : PyProof.Rows.IntsAre vs ns) (small : ns.length ≤ sizeLine) (room : Room k callerA) (sysK : K.lookup sysModules = none) (seer : s.heap.NoSeer)
    (goesF : ∀ base : Heap, K.In base → base.Ns mainGlobals mg → FnG P w K mg base k fa fd [x] sp) (bind : ∀ (s : Shared) (u : Value), BindsTo s fd ⟨[u], []⟩ [(x, u)])
    (want : ∀ H : Hp, Sys K H → SqL K H a (ns.map V.int) → sp [.ref a] H (fun v _ => v = .bl true) E0) :
    codeAny (model P w) callerA (.call (.ref fa) ⟨[.ref a], []⟩) (fun r s' => r = .ok (.ret (.bool true)) ∧ OldK s.heap s'.heap ∧ s'.os = s.os ∧ AllBare s'.gens) s := by
  have rel := vals_ints numbs
  obtain ⟨ob, hob⟩ : ∃ ob, s.heap.get? sysModules = some ob := by
    obtain ⟨mm, ⟨o, es, ep, e, _⟩, _⟩ := seer.mods
    exact ⟨o, e⟩
  let two : Hp := fun b => if b = a ∧ K.lookup a = none then some (.frz { cls := .type "list", data := .seq vs.toArray } (.lst (ns.map V.int))) else if b = sysModules then some (.frz ob (.ext fun h => h.get? sysModules = some ob)) else none
  have only : ∀ b, two b = none ∨ ∃ o u, two b = some (.frz o u) := fun b => by
    by_cases h1 : b = a ∧ K.lookup a = none
    · exact .inr ⟨_, _, if_pos h1⟩
    · by_cases h2 : b = sysModules
      · exact .inr ⟨_, _, (if_neg h1).trans (if_pos h2)⟩
      · exact .inl ((if_neg h1).trans (if_neg h2))
  have alone : ∀ b, two b ≠ none → b = a ∨ b = sysModules := fun b h => by
    by_cases h1 : b = a ∧ K.lookup a = none
    · exact .inl h1.1
    · by_cases h2 : b = sysModules
      · exact .inr h2
      · exact absurd ((if_neg h1).trans (if_neg h2)) h
  have away : ∀ b, two b ≠ none → K.lookup b = none := fun b h => by
    by_cases h1 : b = a ∧ K.lookup a = none
    · rw [h1.1]
      exact h1.2
    · by_cases h2 : b = sysModules
      · rw [h2]
        exact sysK
      · exact absurd ((if_neg h1).trans (if_neg h2)) h
  have held : HOk P w two s.heap := fun b u z => by
    by_cases h1 : b = a ∧ K.lookup a = none
    · have e : two b = _ := if_pos h1
      rw [e] at z
      obtain rfl := Option.some.inj z
      rw [h1.1]
      exact ⟨obj, by rw [List.length_map]; exact small, vs, _, rel, obj⟩
    · by_cases h2 : b = sysModules
      · have e : two b = _ := (if_neg h1).trans (if_pos h2)
        rw [e] at z
        obtain rfl := Option.some.inj z
        rw [h2]
        exact ⟨hob, hob, ⟨_, hob⟩, fun h1 h2 e k => k _ e⟩
      · have e : two b = _ := (if_neg h1).trans (if_neg h2)
        rw [e] at z
        cases z
  have sys : Sys K two := by
    by_cases h1 : sysModules = a ∧ K.lookup a = none
    · exact ⟨_, _, if_pos h1⟩
    · exact ⟨_, _, (if_neg h1).trans (if_pos rfl)⟩
  refine endS_from inK mains blts boot noLim gens obj room goesF bind two only held alone away (want two sys ?_)
  cases hk : K.lookup a with
  | some o =>
    have e := inK a o hk
    rw [obj] at e
    obtain rfl := Option.some.inj e
    exact Or.inr ⟨_, vs.toArray, _, hk, rfl, rfl, rfl, by rw [List.size_toArray, numbs.length]; exact small, by simpa using rel⟩
  | none => exact .inl (.inr ⟨_, if_pos ⟨rfl, hk⟩⟩)
end
theorem walk_S {l : PySem.W.OpenLaw} {n k : Nat} {q : Program} {loose : List Str} {XP : (Str → Option Value) → Heap → Prop} {YP : World → Heap → Prop} {d : DefRec} {K : Params → PySem.W.Frag} {sp : PySem.W.Frag → Sp} {x : Str}
    (hn : l.most = some n) (small : n ≤ sizeLine) (plain : d.params.defaults = []) (room : Room k callerA) (hq : importsNone q = true) (hY : ∀ (w : World) (h : Heap), YP w h → (K w.params).In h)
    (F : ∀ (w : World) (mg : Str → Option Value) (fa : Addr) (h : Heap), (K w.params).In h → h.Ns mainGlobals mg → mg d.name = some (.ref fa) →
      ∃ fd : FuncData, (K w.params).lookup sysModules = none ∧ (∀ (s : Shared) (u : Value), BindsTo s fd ⟨[u], []⟩ [(x, u)]) ∧ ∀ base : Heap, (K w.params).In base → base.Ns mainGlobals mg → FnG l.prog w (K w.params) mg base k fa fd [x] (sp (K w.params)))
    (want : ∀ (K : PySem.W.Frag) (H : Hp) (a : Addr) (ns : List Int), ns.length ≤ n → Sys K H → SqL K H a (ns.map V.int) → sp K [.ref a] H (fun v _ => v = .bl true) E0) :
    PySem.W.WalkO q loose XP YP l.row.toRowW d [] (fun f vs => PySem.call f vs) := by
  refine Att.attach_call hn plain fun w s0 s1 mg mb fa o pm cd doc a vs ns ground told ho hd hcd hmg obj numbs many gens => ?_
  have inK := hY w _ told
  obtain ⟨fd, sysK, bind, goesF⟩ := F w mg fa _ inK ground.T.g hmg
  exact endS_call inK ground.T.g ground.T.b ground.T.builtins ground.T.nolimit gens obj numbs (Nat.le_trans many small) room sysK (ground.T.seer hq) goesF bind fun H S held => want (K w.params) H a ns many S held
end LG
namespace LG
open PySem PySem.Spec PyProof.Rows L2
/-! ### defs that have values for what is not handed in -/
section
variable {P : Program} {w : World} {K : PySem.W.Frag} {mg : Str → Option Value} {base : Heap} {x : Str} {st : Stmt} {ps : List Str} {k : Nat} {sp : Sp} {CX : CXT} {dvs : List V}
abbrev FunV (K : PySem.W.Frag) (x : Str) (st : Stmt) (dvs : List V) (f : Addr) (fd : FuncData) : Prop := FunD K x x (defArgs st) (defBody st) (defScope st) dvs [] f fd
theorem funV_ok {f : Addr} {fd : FuncData} {N : List Str} (F : FunV K x st dvs f fd) (S : FnScope N ps (defScope st)) (many : ∀ vs H Q E, sp vs H Q E → vs.length = ps.length)
    (body : ∀ (cdv : Value) (A : Around) (outer : List Env) (s : Shared) (H : Hp) (vs : List V) (Q : VK) (E : XK), Room k (A.deeper (envOfC x (defScope st) s.heap.objs.size f cdv)) → sp vs H Q E →
      ∃ t, PSs (cxOf CX0 P w K mg base N x (defScope st) f cdv A outer s H E).nox (defBody st) t ∧ t { nx := fun _ H' => Q .non H', rt := Q } (start N vs) H) : FnOk P w K mg base CX0 (k + 1) f fd ps sp :=
  F.ok S many fun cdv A outer s H vs Q E hr want => by
    obtain ⟨t, ht, q⟩ := body cdv A outer s H vs Q E hr want
    exact ⟨t, ht.nox, q⟩
structure DefV (K : PySem.W.Frag) (mg : Str → Option Value) (x : Str) (st : Stmt) (ps : List Str) (dvs : List V) : Prop where
  ex : ∃ (f : Addr) (fd : FuncData), FunV K x st dvs f fd ∧ mg x = some (.ref f) ∧ Binds K fd ps []
theorem DefV.has (d : DefV K mg x st ps dvs) (h : ∀ (f : Addr) (fd : FuncData), FunV K x st dvs f fd → FnOk P w K mg base CX k f fd ps sp) : Has P w K mg base CX k x ps sp := by
  obtain ⟨f, fd, F, g, b⟩ := d.ex
  exact ⟨f, fd, h f fd F, g, F.kp, b⟩
theorem defV_mk {h : Heap} {f D : Addr} {od an : Option Addr} {sl : Array (Option Value)} {oc kV dc pm cd ct : Value} (X : K.In h) (G : h.Ns mainGlobals mg)
    (a : PySem.W.nsIn K mainGlobals x = some (some (.ref f))) (l : K.lookup f = some ⟨oc, od, .func (PySem.W.fnOf x x (defArgs st) (defBody st) (defScope st) (.ref D) kV dc pm an cd ct), sl⟩) (c : PySem.W.codeIn K cd x = true) (kp : PySem.W.keepIn K (.ref f) = true) (v : DflV K (.ref D) dvs) (ne : dvs ≠ [])
    (b : ∀ (T : Addr) (kV doc pm : Value) (an : Option Addr) (cdv ct : Value) (us its : List Value), us.length = ps.length → its.length = dvs.length →
      ∃ kk, bindArgs (PySem.W.fnOf x x (defArgs st) (defBody st) (defScope st) (.ref T) kV doc pm an cdv ct) ⟨us, []⟩ = seqItems? (.ref T) >>= kk ∧ kk (some its.toArray) = pure (ps.zip (us ++ its.drop dvs.length))) : DefV K mg x st ps dvs := by
  have F : FunV K x st dvs f _ := ⟨⟨oc, od, .ref D, kV, dc, pm, an, cd, ct, sl, rfl, l, c, v, .inl rfl⟩, kp⟩
  obtain ⟨ds, hv, hb⟩ := FunD.binds1 F ps.length dvs.length ne (by omega) b
  rw [List.drop_length] at hv
  cases hv
  exact ⟨f, _, F, PySem.W.mg_of X G a, hb⟩
end
end LG
namespace Lw
open PySem PySem.Spec PyProof.Rows L2 LG
def top (i : Nat) : Stmt := PySem.Challenge.pw_looksfar_k04_all_views.main.body.getD i (.Pass ⟨0, 0, 0, 0⟩)
abbrev sis_number : Stmt := top 5
abbrev scheck_reach : Stmt := top 6
abbrev schoices : Stmt := top 8
abbrev sall_views : Stmt := top 13
abbrev sall_branches : Stmt := top 14
abbrev scount_views : Stmt := top 15
abbrev scheck_many : Stmt := top 16
abbrev s_branches : Stmt := top 17
abbrev s_law_draws : Stmt := top 19
abbrev s_law_take : Stmt := top 20
abbrev s_law_choices : Stmt := top 21
abbrev s_law_branches : Stmt := top 22
abbrev s_law_count : Stmt := top 23
abbrev s_law_refusal : Stmt := top 24
abbrev s_law_views_right : Stmt := top 25
abbrev s_law_branches_right : Stmt := top 26
abbrev s_law_end : Stmt := top 27
abbrev s_law_large : Stmt := top 28
abbrev s_law_one : Stmt := top 29
abbrev s_law_all : Stmt := top 30
abbrev slaw : Stmt := top 31
/-- the built-ins that the text uses -/
structure Blt (mg : Str → Option Value) : Prop where
  abs : mg "abs" = none
  int : mg "int" = none
  len : mg "len" = none
  range : mg "range" = none
  tuple : mg "tuple" = none
  isinstance : mg "isinstance" = none
  bool : mg "bool" = none
  repr : mg "repr" = none
  list : mg "list" = none
/-- the module's constants -/
structure Cst (mg : Str → Option Value) : Prop where
  MOST_REACH : ∃ t, mg "MOST_REACH" = some (.int 4 t)
  MOST_VIEWS : ∃ t, mg "MOST_VIEWS" = some (.int 200000 t)
  NO_COLOUR : ∃ t, mg "NO_COLOUR" = some (.int 0 t)
/-! ### the draws that the law makes of the script -/
section
variable {P : Program} {w : World} {K : PySem.W.Frag} {mg : Str → Option Value} {base : Heap}
/-- a new list of as many small numbers as are asked -/
def spDraws (K : PySem.W.Frag) : Sp := fun vs H Q _ => ∃ (a : Addr) (ns : List Int) (m : Nat), vs = [.ref a, .int m] ∧ SqL K H a (ns.map V.int) ∧ ns.length ≤ 63 ∧ m ≤ 2000 ∧
  ∀ (p : Addr) (H' : Hp) (ds : List Int), H p = none → Same H H' → H' p = some (.lst (ds.map V.int)) → ds.length = m → (∀ d ∈ ds, 0 ≤ d ∧ d < 2 ^ 31) → Q (.ref p) H'
theorem ok_draws {f : Addr} {fd : FuncData} (B : Blt mg) (F : Fun K "_law_draws" "_law_draws" s_law_draws f fd) : FnOk P w K mg base CX0 1 f fd ["script", "many"] (spDraws K) := by
  have sc : FnScope ["script", "many", "rests", "draws", "k", "cell", "mixed", "at"] ["script", "many"] (defScope s_law_draws) := ⟨rfl, rfl, rfl, by decide +kernel, rfl, by decide +kernel, by decide +kernel⟩
  refine F.ok sc (fun vs H Q E h => ?_) (fun cdv A outer s H vs Q E hr h => ?_)
  · obtain ⟨a, ns, m, rfl, _⟩ := h
    rfl
  obtain ⟨a, ns, m, rfl, hS, h63, hm, k⟩ := h
  refine ⟨_, (pss_cons (ps_setLc (i := 2) (own := [("cell", 5)]) (g := gName 5) (tt := tYes) rfl sc.nd rfl rfl (sw_true rfl rfl rfl (by decide +kernel)) (pi_list (pv 0)) (blkOk_by (N := ["script", "many", "rests", "draws", "k", "cell", "mixed", "at"]) (sc := defScope s_law_draws) (by decide +kernel)) (fun _ _ _ _ _ => pg_name (i := 5) sc.nd rfl (Or.inl rfl)) (fun _ _ _ _ _ => pts_nil) (fun _ _ _ _ _ => (pe_callB call_abs (by rfl) B.abs (by decide +kernel) (pa_cons (pe_callTy call_int1 (by rfl) B.int (by decide +kernel) (pa_cons (pv 5) pa_nil)) pa_nil))))
    (pss_cons (ps_set (i := 3) sc.nd rfl (Or.inl rfl) (pe_lst pa_nil))
    (pss_cons (ps_for PassesOwn.never rfl (pi_range1 (by rfl) B.range (pa_cons (pv 1) pa_nil)) (pg_name (i := 4) sc.nd rfl (Or.inl rfl))
      (pss_cons (ps_set (i := 5) sc.nd rfl (Or.inl rfl) (pv 4))
      (pss_cons (ps_if (pt_cmpR op_gt (pe_callB call_len_seq (by rfl) B.len (by decide +kernel) (pa_cons (pv 0) pa_nil)) pe_int (nomark _))
        (pss_cons (ps_set (i := 7) sc.nd rfl (Or.inl rfl) (pe_op op_mod (pv 4) (pe_callB call_len_seq (by rfl) B.len (by decide +kernel) (pa_cons (pv 0) pa_nil))))
        (pss_cons (ps_set (i := 5) sc.nd rfl (Or.inl rfl) (pe_callTy call_int1 (by rfl) B.int (by decide +kernel) (pa_cons (pe_ix ix_list (pv 0) (pv 7) (fun _ _ => rfl)) pa_nil)))
        (pss_one (ps_if (PW.pt (pw_and (pt_cmpR op_ge (pv 5) (pe_op op_pow pe_int pe_int) (nomark _)) (pw_and1 (pt_cmpR op_gt (pe_ix ix_list (pv 2) (pv 7) (fun _ _ => rfl)) pe_int (nomark _)))))
          (pss_cons (ps_expr (pe_bm PySem.F.plainAttrs_list PySem.F.slot_list_append PySem.F.type_list_append mt_append (pv 3) (pa_cons (pe_op op_mod (pe_callTy call_int1 (by rfl) B.int (by decide +kernel) (pa_cons (pe_ix ix_list (pv 2) (pv 7) (fun _ _ => rfl)) pa_nil)) pe_int) pa_nil)))
          (pss_cons (ps_asg (pe_op op_fdiv (pe_callTy call_int1 (by rfl) B.int (by decide +kernel) (pa_cons (pe_ix ix_list (pv 2) (pv 7) (fun _ _ => rfl)) pa_nil)) pe_int) (pg_sub (pv 2) (pv 7) set_list))
          (pss_one ps_continue)))
          pss_nil))))
        pss_nil)
      (pss_cons (ps_set (i := 6) sc.nd rfl (Or.inl rfl) (pe_op op_mod (pe_callTy call_int1 (by rfl) B.int (by decide +kernel) (pa_cons (pe_op op_add (pe_op op_add (pe_op op_mul (pv 5) pe_int) (pe_op op_mul (pv 4) pe_int)) pe_int) pa_nil)) pe_int))
      (pss_cons (ps_set (i := 6) sc.nd rfl (Or.inl rfl) (pe_op op_mod (pe_callTy call_int1 (by rfl) B.int (by decide +kernel) (pa_cons (pe_op op_add (pe_op op_fdiv (pe_op op_mul (pv 6) (pv 6)) pe_int) (pv 6)) pa_nil)) pe_int))
      (pss_one (ps_expr (pe_bm PySem.F.plainAttrs_list PySem.F.slot_list_append PySem.F.type_list_append mt_append (pv 3) (pa_cons (pe_op op_mod (pe_callTy call_int1 (by rfl) B.int (by decide +kernel) (pa_cons (pe_op op_add (pe_op op_fdiv (pe_op op_mul (pv 6) (pv 6)) pe_int) (pe_op op_mul (pv 4) pe_int)) pa_nil)) pe_int) pa_nil)))))))))
    (pss_one (ps_ret (pv 3)))))), ?_⟩
  -- rests
  refine ⟨_, rfl, a, rfl, ⟨_, hS⟩, fun r hr0 => ?_⟩
  refine lc_list (K := K) (a := a) (xs := ns.map V.int) (fun i H' => ∃ acc : List Int, acc.length = i ∧ H' r = some (.lst (acc.map V.int)) ∧ Same H H')
    ⟨[], rfl, upd_same, same_new hr0 _⟩ (fun i H' _ ⟨_, _, _, s⟩ => s.seq hS) ?_ ?_
  · rintro i y H' hi ⟨acc, hl, hD, s⟩
    obtain ⟨z, hz, rfl⟩ := item_of hi
    have hi63 : i < ns.length := (List.getElem?_eq_some_iff.mp hz).1
    refine ⟨rfl, ?_⟩

    refine ⟨_, rfl, .inl ⟨_, rfl, _, rfl, _, hD, small1000 (by rw [List.length_map]; omega), acc ++ [if z < 0 then -z else z], by simp [hl], ?_, same_own s hr0 _⟩⟩
    rw [upd_same, List.map_append]
    rfl
  rintro H1 ⟨rs, hrs, hr1, s1⟩
  rw [List.length_map] at hrs
  -- draws
  refine ⟨Nat.zero_le _, fun p hp1 => ?_⟩
  have hp0 : H p = none := s1.free hp1
  have npr : r ≠ p := ne_of_none hr1 hp1
  -- the loop
  refine ⟨_, rfl, (m : Int), rfl, by omega, by omega, for_range (lo := 0) (n := (m : Int).toNat) (fun i σ H' => ∃ (ds rs : List Int) (kv cv mv av : Option V), σ = [some (.ref a), some (.int m), some (.ref r), some (.ref p), kv, cv, mv, av] ∧
      H' r = some (.lst (rs.map V.int)) ∧ H' p = some (.lst (ds.map V.int)) ∧ rs.length = ns.length ∧ ds.length = i ∧ (∀ d ∈ ds, 0 ≤ d ∧ d < 2 ^ 31) ∧ Same H H')
    ⟨[], rs, none, none, none, none, rfl, by rw [upd_ne npr]; exact hr1, upd_same, hrs, rfl, by simp, same_own s1 hp0 _⟩ ?_ ?_⟩
  · rintro i σ H' hi ⟨ds, rs, kv, cv, mv, av, rfl, hr', hp', hrl, hdl, hb, s⟩
    have hi2 : ds.length < 2000 := by omega
    have grown : ∀ (d : Int), 0 ≤ d → d < 2 ^ 31 → ∀ z ∈ ds ++ [d], 0 ≤ z ∧ z < 2 ^ 31 := fun d h0 h1 z hz => by
      rcases List.mem_append.mp hz with q | q
      · exact hb z q
      · rw [List.mem_singleton.mp q]
        exact ⟨h0, h1⟩
    have put : ∀ (d : Int), (upd H' p (.lst (ds.map V.int ++ [V.int d]))) p = some (.lst ((ds ++ [d]).map V.int)) := fun d => by
      rw [upd_same, List.map_append]
      rfl
    have room : (ds.map V.int).length < sizeLine := by rw [List.length_map]; exact Nat.lt_trans hi2 (by decide)
    have m48 : -(2 ^ 64) < (48271 : Int) ∧ (48271 : Int) < 2 ^ 64 := by decide
    have m69 : -(2 ^ 64) < (69621 : Int) ∧ (69621 : Int) < 2 ^ 64 := by decide
    have m79 : -(2 ^ 64) < (7919 : Int) ∧ (7919 : Int) < 2 ^ 64 := by decide
    have b1 : ∀ x : Int, -(2 ^ 64) < x % 2147483647 ∧ x % 2147483647 < 2 ^ 64 := fun x => by omega
    have b2 : ∀ x : Int, -(2 ^ 64) < x % 2147483629 ∧ x % 2147483629 < 2 ^ 64 := fun x => by omega
    refine ⟨_, rfl, ?_⟩
    refine ⟨_, rfl, a, _, rfl, .inl (s.seq hS), _, _, rfl, rfl, _, rfl, ?_⟩
    refine ite2 (fun c => ?_) (fun c => ?_)
    · have c' := dec_t c
      rw [List.length_map] at c'
      have m0 : 0 ≤ (0 + (i : Int)) % (ns.length : Int) := Int.emod_nonneg _ (by omega)
      have m1 : (0 + (i : Int)) % (ns.length : Int) < (ns.length : Int) := Int.emod_lt_of_pos _ c'
      obtain ⟨z, _, _, hz⟩ := at_int m0 m1
      obtain ⟨y, hy0, _, hy⟩ := at_int (ns := rs) m0 (by rw [hrl]; exact m1)
      refine ⟨_, rfl, _, rfl, a, _, rfl, .inl (s.seq hS), _, _, rfl, rfl, (by rw [List.length_map]; exact c'), ?_⟩
      rw [List.length_map]
      refine ⟨_, rfl, _, rfl, a, _, _, _, rfl, rfl, s.seq hS, hz, .inl ⟨_, rfl, ?_⟩⟩
      refine ⟨_, rfl, _, _, rfl, rfl, ⟨by decide, by decide, by decide⟩, _, _, rfl, rfl, _, rfl, ?_⟩
      refine ite2 (fun _ => ?_) (fun _ => ?_)
      · refine ⟨_, rfl, _, rfl, r, _, _, _, rfl, rfl, SqL.of hr', hy, _, _, rfl, rfl, _, rfl, ?_⟩
        refine ite2 (fun _ => ?_) (fun _ => ?_)
        · refine ⟨_, rfl, .inl ⟨rfl, _, SqL.of hp'⟩, _, rfl, _, rfl, r, _, _, _, rfl, rfl, SqL.of hr', hy, .inl ⟨_, rfl, _, _, rfl, rfl, (by show (0 : Int) < 1000003; decide), p, _, _, rfl, rfl, hp', room, ?_⟩⟩
          have hr2 : (upd H' p (.lst (ds.map V.int ++ [V.int (y % 1000003)]))) r = some (.lst (rs.map V.int)) := by rw [upd_ne npr]; exact hr'
          refine ⟨_, rfl, _, rfl, r, _, _, _, rfl, rfl, SqL.of hr2, hy, .inl ⟨_, rfl, _, _, rfl, rfl, ⟨by decide, by decide⟩, _, rfl, _, rfl, r, _, _, ((0 + (i : Int)) % (ns.length : Int)).toNat, rfl, rfl, hr2, ix_of m0 (by rw [List.length_map, hrl]; exact m1), ?_⟩⟩
          refine ⟨ds ++ [y % 1000003], rs.set ((0 + (i : Int)) % (ns.length : Int)).toNat (y / 1000003), _, _, _, _, rfl, ?_, ?_, by rw [List.length_set]; exact hrl, by rw [List.length_append, List.length_singleton]; omega, grown _ (Int.emod_nonneg _ (by decide)) (Int.lt_trans (Int.emod_lt_of_pos _ (by decide)) (by decide)), same_own (same_own s hp0 _) hr0 _⟩
          · rw [upd_same, List.map_set]
          · rw [upd_ne npr.symm]
            exact put _
        · refine ⟨_, rfl, _, _, rfl, rfl, .inr m48, _, rfl, _, _, rfl, rfl, .inr m69, _, _, rfl, rfl, _, _, rfl, rfl, .inl ⟨_, rfl, _, _, rfl, rfl, (by show (0 : Int) < 2147483647; decide), ?_⟩⟩
          refine ⟨_, rfl, _, rfl, _, _, rfl, rfl, .inl (b1 _), _, _, rfl, rfl, ⟨by decide, by decide⟩, _, rfl, _, _, rfl, rfl, .inl ⟨_, rfl, _, _, rfl, rfl, (by show (0 : Int) < 2147483629; decide), ?_⟩⟩
          refine ⟨_, rfl, .inl ⟨rfl, _, SqL.of hp'⟩, _, rfl, _, rfl, _, _, rfl, rfl, .inl (b2 _), _, _, rfl, rfl, ⟨by decide, by decide⟩, _, rfl, _, _, rfl, rfl, .inr m79, _, _, rfl, rfl, .inl ⟨_, rfl, _, _, rfl, rfl, (by show (0 : Int) < 2147483629; decide), p, _, _, rfl, rfl, hp', room, ?_⟩⟩
          exact ⟨ds ++ [_], rs, _, _, _, _, rfl, by rw [upd_ne npr]; exact hr', put _, hrl, by rw [List.length_append, List.length_singleton]; omega, grown _ (Int.emod_nonneg _ (by decide)) (Int.lt_trans (Int.emod_lt_of_pos _ (by decide)) (by decide)), same_own s hp0 _⟩
      · refine ⟨_, rfl, _, _, rfl, rfl, .inr m48, _, rfl, _, _, rfl, rfl, .inr m69, _, _, rfl, rfl, _, _, rfl, rfl, .inl ⟨_, rfl, _, _, rfl, rfl, (by show (0 : Int) < 2147483647; decide), ?_⟩⟩
        refine ⟨_, rfl, _, rfl, _, _, rfl, rfl, .inl (b1 _), _, _, rfl, rfl, ⟨by decide, by decide⟩, _, rfl, _, _, rfl, rfl, .inl ⟨_, rfl, _, _, rfl, rfl, (by show (0 : Int) < 2147483629; decide), ?_⟩⟩
        refine ⟨_, rfl, .inl ⟨rfl, _, SqL.of hp'⟩, _, rfl, _, rfl, _, _, rfl, rfl, .inl (b2 _), _, _, rfl, rfl, ⟨by decide, by decide⟩, _, rfl, _, _, rfl, rfl, .inr m79, _, _, rfl, rfl, .inl ⟨_, rfl, _, _, rfl, rfl, (by show (0 : Int) < 2147483629; decide), p, _, _, rfl, rfl, hp', room, ?_⟩⟩
        exact ⟨ds ++ [_], rs, _, _, _, _, rfl, by rw [upd_ne npr]; exact hr', put _, hrl, by rw [List.length_append, List.length_singleton]; omega, grown _ (Int.emod_nonneg _ (by decide)) (Int.lt_trans (Int.emod_lt_of_pos _ (by decide)) (by decide)), same_own s hp0 _⟩
    · refine ⟨_, rfl, _, _, rfl, rfl, .inr m48, _, rfl, _, _, rfl, rfl, .inr m69, _, _, rfl, rfl, _, _, rfl, rfl, .inl ⟨_, rfl, _, _, rfl, rfl, (by show (0 : Int) < 2147483647; decide), ?_⟩⟩
      refine ⟨_, rfl, _, rfl, _, _, rfl, rfl, .inl (b1 _), _, _, rfl, rfl, ⟨by decide, by decide⟩, _, rfl, _, _, rfl, rfl, .inl ⟨_, rfl, _, _, rfl, rfl, (by show (0 : Int) < 2147483629; decide), ?_⟩⟩
      refine ⟨_, rfl, .inl ⟨rfl, _, SqL.of hp'⟩, _, rfl, _, rfl, _, _, rfl, rfl, .inl (b2 _), _, _, rfl, rfl, ⟨by decide, by decide⟩, _, rfl, _, _, rfl, rfl, .inr m79, _, _, rfl, rfl, .inl ⟨_, rfl, _, _, rfl, rfl, (by show (0 : Int) < 2147483629; decide), p, _, _, rfl, rfl, hp', room, ?_⟩⟩
      exact ⟨ds ++ [_], rs, _, _, _, _, rfl, by rw [upd_ne npr]; exact hr', put _, hrl, by rw [List.length_append, List.length_singleton]; omega, grown _ (Int.emod_nonneg _ (by decide)) (Int.lt_trans (Int.emod_lt_of_pos _ (by decide)) (by decide)), same_own s hp0 _⟩
  · rintro σ H' ⟨ds, rs, kv, cv, mv, av, rfl, hr', hp', hrl, hdl, hb, s⟩
    exact ⟨_, rfl, k p H' ds hp0 s hp' (by omega) hb⟩
/-- the next draw, below many; the place goes on by one -/
def spTake (K : PySem.W.Frag) : Sp := fun vs H Q _ => ∃ (h d : Addr) (ds : List Int) (i : Nat) (m : Int), vs = [.ref h, .int m] ∧ H h = some (.lst [.ref d, .int i]) ∧ H d = some (.lst (ds.map V.int)) ∧ 0 < m ∧ m < 1000000 ∧
  ∀ r : Int, 0 ≤ r → r < m → Q (.int r) (upd H h (.lst [.ref d, .int ((i + 1 : Nat) : Int)]))
theorem ok_take {f : Addr} {fd : FuncData} (B : Blt mg) (F : Fun K "_law_take" "_law_take" s_law_take f fd) : FnOk P w K mg base CX0 1 f fd ["hand", "many"] (spTake K) := by
  have sc : FnScope ["hand", "many", "at", "draws"] ["hand", "many"] (defScope s_law_take) := ⟨rfl, rfl, rfl, by decide +kernel, rfl, by decide +kernel, by decide +kernel⟩
  refine F.ok sc (fun vs H Q E h => ?_) (fun cdv A outer s H vs Q E hr h => ?_)
  · obtain ⟨h, d, ds, i, m, rfl, _⟩ := h
    rfl
  obtain ⟨h, d, ds, i, m, rfl, hh, hd, m0, m1, k⟩ := h
  refine ⟨_, (pss_cons (ps_set (i := 2) sc.nd rfl (Or.inl rfl) (pe_ix ix_list (pv 0) pe_int (fun _ _ => rfl)))
    (pss_cons (ps_asg (pe_op op_add (pv 2) pe_int) (pg_sub (pv 0) pe_int set_list))
    (pss_cons (ps_set (i := 3) sc.nd rfl (Or.inl rfl) (pe_ix ix_list (pv 0) pe_int (fun _ _ => rfl)))
    (pss_cons (ps_if (pt_cmpR op_ge (pv 2) (pe_callB call_len_seq (by rfl) B.len (by decide +kernel) (pa_cons (pv 3) pa_nil)) (nomark _))
      (pss_one (ps_ret pe_int))
      pss_nil)
    (pss_one (ps_ret (pe_op op_mod (pe_op op_fdiv (pe_callTy call_int1 (by rfl) B.int (by decide +kernel) (pa_cons (pe_ix ix_list (pv 3) (pv 2) (fun _ _ => rfl)) pa_nil)) pe_int) (pv 1)))))))), ?_⟩
  have ndh : d ≠ h := by
    rintro rfl
    rw [hh] at hd
    cases ds with
    | nil => cases hd
    | cons z ds => cases hd
  refine ⟨_, rfl, h, _, _, _, rfl, rfl, SqL.of hh, at_of (j := 1) rfl rfl, ?_⟩
  refine ⟨_, rfl, _, _, rfl, rfl, _, rfl, h, _, _, 1, rfl, rfl, hh, by rfl, ?_⟩
  refine ⟨_, rfl, h, _, _, _, rfl, rfl, SqL.of upd_same, at_of (j := 0) rfl rfl, ?_⟩
  have hd2 : (upd H h (.lst ([V.ref d, V.int (i : Int)].set 1 (.int ((i : Int) + 1))))) d = some (.lst (ds.map V.int)) := by rw [upd_ne ndh]; exact hd
  refine ⟨_, rfl, _, rfl, d, _, rfl, .inl (SqL.of hd2), _, _, rfl, rfl, _, rfl, ?_⟩
  have q : ∀ r : Int, 0 ≤ r → r < m → Q (.int r) (upd H h (.lst ([V.ref d, V.int (i : Int)].set 1 (.int ((i : Int) + 1))))) := k
  refine ite2 (fun _ => q 0 (by decide) m0) (fun c => ?_)
  have c' := dec_f c
  rw [List.length_map] at c'
  obtain ⟨z, _, _, hz⟩ := at_int (ns := ds) (i := (i : Int)) (by omega) (by omega)
  exact ⟨_, rfl, _, rfl, d, _, _, _, rfl, rfl, SqL.of hd2, hz, .inl ⟨_, rfl, _, _, rfl, rfl, ⟨by decide, by decide⟩, _, rfl, _, _, rfl, rfl, m0, q _ (Int.emod_nonneg _ (by omega)) (Int.emod_lt_of_pos _ m0)⟩⟩
end
section
/-! the list of branches, as data -/
def chS (found : List (List PyData)) (items : List PyData) : List (List PyData) := found.flatMap fun row => items.map fun it => row ++ [it]
def brs (D : Nat) : Nat → Nat → Nat → Nat → List PyData
  | 0, o, _, _ => (List.range o).map fun x => .tuple [.int (x : Nat)]
  | T + 1, o, u, c => (List.range o).flatMap fun x => (((List.range D).map fun i => if i + 1 = c then [PyData.none] else brs D T u o (i + 1)).foldl chS [[]]).map fun r => .tuple [.int (x : Nat), .tuple r]
/-- the part lists -/
def pts (D T o u c : Nat) : List (List PyData) := (List.range D).map fun i => if i + 1 = c then [PyData.none] else brs D T u o (i + 1)
/-- how many -/
def cnt (D : Nat) : Nat → Nat → Nat → Nat → Nat
  | 0, o, _, _ => o
  | T + 1, o, u, c => (List.range D).foldl (fun m i => if i + 1 = c then m else m * cnt D T u o (i + 1)) o
def lcnt (D : Nat) : Nat → Nat → Nat → Nat → Nat
  | 0, o, _, _ => o
  | T + 1, o, u, w => o * lcnt D T u o (D - 1) ^ w
theorem chS_len (f : List (List PyData)) (it : List PyData) : (chS f it).length = f.length * it.length := by
  unfold chS
  induction f with
  | nil => simp
  | cons a f ih => rw [List.flatMap_cons, List.length_append, ih, List.length_map, List.length_cons, Nat.add_mul, Nat.one_mul, Nat.add_comm]
theorem ch_len : ∀ (ls : List (List PyData)) (f : List (List PyData)), (ls.foldl chS f).length = ls.foldl (fun m l => m * l.length) f.length
  | [], _ => rfl
  | l :: ls, f => by
    rw [List.foldl_cons, List.foldl_cons, ch_len ls, chS_len]
theorem fold_scale {α : Type} (g : α → Nat) (a : Nat) : ∀ (ls : List α) (m : Nat), ls.foldl (fun m l => m * g l) (a * m) = a * ls.foldl (fun m l => m * g l) m
  | [], _ => rfl
  | l :: ls, m => by
    rw [List.foldl_cons, List.foldl_cons, Nat.mul_assoc, fold_scale g a ls]
theorem fold_same {α : Type} {f g : Nat → α → Nat} : ∀ (ls : List α) (m : Nat), (∀ m, ∀ l ∈ ls, f m l = g m l) → ls.foldl f m = ls.foldl g m
  | [], _, _ => rfl
  | l :: ls, m, h => by
    rw [List.foldl_cons, List.foldl_cons, h m l List.mem_cons_self, fold_same ls _ fun m x hx => h m x (List.mem_cons_of_mem _ hx)]
theorem sum_same {α : Type} (c : Nat) : ∀ l : List α, (l.map fun _ => c).sum = l.length * c
  | [] => by simp
  | a :: l => by
    rw [List.map_cons, List.sum_cons, sum_same c l, List.length_cons, Nat.add_mul, Nat.one_mul, Nat.add_comm]
theorem brs_len (D : Nat) : ∀ (T o u c : Nat), (brs D T o u c).length = cnt D T o u c
  | 0, o, u, c => by simp [brs, cnt]
  | T + 1, o, u, c => by
    have rows : ∀ (rs : List (List PyData)) (n : Nat), ((List.range n).flatMap fun x => rs.map fun r => PyData.tuple [.int (x : Nat), .tuple r]).length = n * rs.length := fun rs n => by
      rw [List.length_flatMap]
      simp only [List.length_map]
      rw [sum_same, List.length_range]
    unfold brs cnt
    rw [rows, ch_len, List.foldl_map]
    show o * (List.range D).foldl (fun m i => m * (if i + 1 = c then [PyData.none] else brs D T u o (i + 1)).length) 1 = _
    rw [← fold_scale, Nat.mul_one]
    refine fold_same _ _ fun m i _ => ?_
    by_cases h : i + 1 = c
    · rw [if_pos h, if_pos h]
      simp
    · rw [if_neg h, if_neg h, brs_len D T u o (i + 1)]
/-- up to the n-th colour -/
def cpt (D T o u c n : Nat) : Nat := (List.range n).foldl (fun m i => if i + 1 = c then m else m * cnt D T u o (i + 1)) o
theorem cpt_zero (D T o u c : Nat) : cpt D T o u c 0 = o := rfl
theorem cpt_succ (D T o u c n : Nat) : cpt D T o u c (n + 1) = if n + 1 = c then cpt D T o u c n else cpt D T o u c n * cnt D T u o (n + 1) := by
  unfold cpt
  rw [List.range_succ, List.foldl_append]
  rfl
theorem cnt_cpt (D T o u c : Nat) : cnt D (T + 1) o u c = cpt D T o u c D := rfl
theorem cnt_pos (D : Nat) : ∀ (T o u c : Nat), 1 ≤ o → 1 ≤ u → 1 ≤ cnt D T o u c
  | 0, o, u, c, h, _ => h
  | T + 1, o, u, c, h, h2 => by
    rw [cnt_cpt]
    have go : ∀ n, 1 ≤ cpt D T o u c n := fun n => by
      induction n with
      | zero => exact h
      | succ n ih =>
        rw [cpt_succ]
        split
        · exact ih
        · exact Nat.mul_pos ih (cnt_pos D T u o (n + 1) h2 h)
    exact go D
theorem cpt_pos {D T o u c n : Nat} (h : 1 ≤ o) (h2 : 1 ≤ u) : 1 ≤ cpt D T o u c n := by
  induction n with
  | zero => exact h
  | succ n ih =>
    rw [cpt_succ]
    split
    · exact ih
    · exact Nat.mul_pos ih (cnt_pos D T u o (n + 1) h2 h)
theorem cpt_up {D T o u c n : Nat} (h : 1 ≤ o) (h2 : 1 ≤ u) : ∀ k, cpt D T o u c n ≤ cpt D T o u c (n + k)
  | 0 => Nat.le_refl _
  | k + 1 => by
    refine Nat.le_trans (cpt_up h h2 k) ?_
    rw [show n + (k + 1) = (n + k) + 1 from rfl, cpt_succ]
    split
    · exact Nat.le_refl _
    · exact Nat.le_mul_of_pos_right _ (cnt_pos D T u o _ h2 h)
theorem cpt_le {D T o u c n : Nat} (h : 1 ≤ o) (h2 : 1 ≤ u) (hn : n ≤ D) : cpt D T o u c n ≤ cnt D (T + 1) o u c := by
  have e := cpt_up (D := D) (T := T) (c := c) (n := n) h h2 (D - n)
  rwa [show n + (D - n) = D by omega] at e
/-- a part list is no longer -/
theorem cnt_part {D T o u c i : Nat} (h : 1 ≤ o) (h2 : 1 ≤ u) (hi : i < D) (hc : i + 1 ≠ c) : cnt D T u o (i + 1) ≤ cnt D (T + 1) o u c := by
  refine Nat.le_trans ?_ (cpt_le (n := i + 1) h h2 hi)
  rw [cpt_succ, if_neg hc]
  exact Nat.le_mul_of_pos_left _ (cpt_pos h h2)
/-- rows up to the n-th colour -/
def rws (D T o u c n : Nat) : List (List PyData) := ((List.range n).map fun i => if i + 1 = c then [PyData.none] else brs D T u o (i + 1)).foldl chS [[]]
theorem rws_succ (D T o u c n : Nat) : rws D T o u c (n + 1) = chS (rws D T o u c n) (if n + 1 = c then [PyData.none] else brs D T u o (n + 1)) := by
  unfold rws
  rw [List.range_succ, List.map_append, List.foldl_append]
  rfl
theorem rws_len (D T o u c : Nat) : ∀ n, o * (rws D T o u c n).length = cpt D T o u c n
  | 0 => by simp [rws, cpt]
  | n + 1 => by
    rw [rws_succ, chS_len, cpt_succ, ← Nat.mul_assoc, rws_len D T o u c n]
    by_cases h : n + 1 = c
    · rw [if_pos h, if_pos h]
      simp
    · rw [if_neg h, if_neg h, brs_len]
theorem rws_le {D T o u c n M : Nat} (h : 1 ≤ o) (h2 : 1 ≤ u) (hn : n ≤ D) (hM : cnt D (T + 1) o u c ≤ M) : (rws D T o u c n).length ≤ M := by
  refine Nat.le_trans ?_ (Nat.le_trans (cpt_le (n := n) h h2 hn) hM)
  rw [← rws_len]
  exact Nat.le_mul_of_pos_left _ h
theorem brs_rws (D T o u c : Nat) : brs D (T + 1) o u c = (List.range o).flatMap fun x => (rws D T o u c D).map fun r => .tuple [.int (x : Nat), .tuple r] := rfl
/-- the law's count -/
theorem cnt_l (D : Nat) : ∀ (T o u : Nat), (∀ i, i < D → cnt D T o u (i + 1) = lcnt D T o u (D - 1)) ∧ cnt D T o u 0 = lcnt D T o u D
  | 0, o, u => ⟨fun _ _ => rfl, rfl⟩
  | T + 1, o, u => by
    have ih := (cnt_l D T u o).1
    have fold : ∀ c n, n ≤ D → cpt D T o u c n = o * lcnt D T u o (D - 1) ^ (if 1 ≤ c ∧ c ≤ n then n - 1 else n) := fun c n => by
      induction n with
      | zero =>
        intro _
        rw [if_neg (by omega), cpt_zero]
        simp
      | succ n ih2 =>
        intro hn
        rw [cpt_succ, ih2 (by omega), ih n (by omega)]
        by_cases h : n + 1 = c
        · rw [if_pos h, if_neg (by omega), if_pos (by omega), Nat.add_sub_cancel]
        · rw [if_neg h, Nat.mul_assoc, ← Nat.pow_succ]
          congr 2
          by_cases q : 1 ≤ c ∧ c ≤ n
          · rw [if_pos q, if_pos (by omega)]
            omega
          · rw [if_neg q, if_neg (by omega)]
    refine ⟨fun i hi => ?_, ?_⟩
    · rw [cnt_cpt, fold _ _ (Nat.le_refl _), if_pos (by omega)]
      rfl
    · rw [cnt_cpt, fold _ _ (Nat.le_refl _), if_neg (by omega)]
      rfl
theorem cnt_0 (D T o u : Nat) : cnt D T o u 0 = lcnt D T o u D := (cnt_l D T o u).2
theorem cnt_c {D T o u c : Nat} (h1 : 1 ≤ c) (h2 : c ≤ D) : cnt D T o u c = lcnt D T o u (D - 1) := by
  have e := (cnt_l D T o u).1 (c - 1) (by omega)
  rwa [show c - 1 + 1 = c by omega] at e
/-- it stays below some bound -/
def ee (D : Nat) : Nat → Nat
  | 0 => 2
  | T + 1 => 2 + D * ee D T
theorem lcnt_lt (D : Nat) : ∀ (T o u w : Nat), o ≤ 4 → u ≤ 4 → w ≤ D → lcnt D T o u w ≤ 2 ^ ee D T
  | 0, o, u, w, h, _, _ => h
  | T + 1, o, u, w, h, h2, hw => by
    unfold lcnt ee
    rw [Nat.pow_add]
    refine Nat.mul_le_mul h ?_
    rw [Nat.mul_comm D, Nat.pow_mul]
    refine Nat.le_trans (Nat.pow_le_pow_left (lcnt_lt D T u o (D - 1) h2 h (by omega)) w) ?_
    exact Nat.pow_le_pow_right (Nat.two_pow_pos _) hw
theorem ee_le {D T : Nat} (hD : D ≤ 4) (hT : T ≤ 4) : ee D T ≤ 700 := by
  have : ∀ D < 5, ∀ T < 5, ee D T ≤ 700 := by decide
  exact this D (by omega) T (by omega)
theorem lcnt_small {D T o u w : Nat} (hD : D ≤ 4) (hT : T ≤ 4) (ho : o ≤ 4) (hu : u ≤ 4) (hw : w ≤ D) : lcnt D T o u w < 2 ^ 701 :=
  Nat.lt_of_le_of_lt (lcnt_lt D T o u w ho hu hw) (Nat.pow_lt_pow_right (by decide) (Nat.lt_succ_of_le (ee_le hD hT)))
/-- few and large: the sizes that repr allows -/
def vbk (D : Nat) : Nat → Nat
  | 0 => 1
  | T + 1 => D * (vbk D T + 1) + 2
theorem few_large : ∀ o < 5, ∀ u < 5, ∀ w, (w = 3 ∨ w = 4) → 1 ≤ o → 1 ≤ u → lcnt 4 4 o u w ≤ 1100 → lcnt 4 4 o u w ≤ 400 := by
  have h3 : ∀ o < 5, ∀ u < 5, 1 ≤ o → 1 ≤ u → lcnt 4 4 o u 3 ≤ 1100 → lcnt 4 4 o u 3 ≤ 400 := by decide +kernel
  have h4 : ∀ o < 5, ∀ u < 5, 1 ≤ o → 1 ≤ u → lcnt 4 4 o u 4 ≤ 1100 → lcnt 4 4 o u 4 ≤ 400 := by decide +kernel
  rintro o ho u hu w (rfl | rfl)
  · exact h3 o ho u hu
  · exact h4 o ho u hu
theorem vbk_le {D T : Nat} (hD : D ≤ 4) (hT : T ≤ 4) (h : ¬ (D = 4 ∧ T = 4)) : 1100 * (vbk D T + 1) ≤ 390000 := by
  have : ∀ D < 5, ∀ T < 5, ¬ (D = 4 ∧ T = 4) → 1100 * (vbk D T + 1) ≤ 390000 := by decide
  exact this D (by omega) T (by omega) h
theorem list_fits {D T o u w : Nat} (hD2 : 1 ≤ D) (hD : D ≤ 4) (hT : T ≤ 4) (o1 : 1 ≤ o) (ho : o ≤ 4) (u1 : 1 ≤ u) (hu : u ≤ 4) (hw : w = D ∨ w = D - 1) (few : lcnt D T o u w ≤ 1100) : lcnt D T o u w * (vbk D T + 1) ≤ 390000 := by
  by_cases h : D = 4 ∧ T = 4
  · obtain ⟨rfl, rfl⟩ := h
    have a := few_large o (by omega) u (by omega) w (by omega) o1 u1 few
    refine Nat.le_trans (Nat.mul_le_mul_right _ a) (by decide)
  · exact Nat.le_trans (Nat.mul_le_mul_right _ few) (vbk_le hD hT h)
end
/-! ### what a view is -/
def isNum (d : PyData) (lo hi : Int) : Bool := match d with
  | .int i => decide (lo ≤ i) && decide (i ≤ hi)
  | _ => false
def isN : PyData → Bool
  | .none => true
  | _ => false
def isInt2 : PyData → Bool
  | .int _ => true
  | .bool _ => true
  | _ => false
def isBool : PyData → Bool
  | .bool _ => true
  | _ => false
theorem kit_int (d : PyData) : kitB (tyD d) "int" = some (isInt2 d) := by cases d <;> (simp only [tyD, isInt2]; decide +kernel)
theorem kit_bool (d : PyData) : kitB (tyD d) "bool" = some (isBool d) := by cases d <;> (simp only [tyD, isBool]; decide +kernel)
section
variable {P : Program} {w : World} {K : PySem.W.Frag} {mg : Str → Option Value} {base : Heap}
def spNumber (K : PySem.W.Frag) : Sp := fun vs H Q _ => ∃ (M : Addr → Prop) (x : V) (d : PyData) (lo hi : Int), vs = [x, .int lo, .int hi] ∧ Dq M K H x d ∧ Q (.bl (isNum d lo hi)) H
theorem ok_number {f : Addr} {fd : FuncData} (B : Blt mg) (F : Fun K "is_number" "is_number" sis_number f fd) : FnOk P w K mg base CX0 1 f fd ["value", "low", "high"] (spNumber K) := by
  have sc : FnScope ["value", "low", "high"] ["value", "low", "high"] (defScope sis_number) := ⟨rfl, rfl, rfl, by decide +kernel, rfl, by decide +kernel, by decide +kernel⟩
  refine F.ok sc (fun vs H Q E h => ?_) (fun cdv A outer s H vs Q E hr h => ?_)
  · obtain ⟨_, _, _, _, _, rfl, _⟩ := h
    rfl
  obtain ⟨M, x, d, lo, hi, rfl, hd, k⟩ := h
  refine ⟨_, (pss_cons (ps_if (PW.pt (pw_or (pt_not (pt_val (pe_callB call_isi (by rfl) B.isinstance (by decide +kernel) (pa_cons (pv 0) (pa_cons (pe_bltn (v := V.ty "int") (u := Value.type "int") (by rfl) B.int (by decide +kernel) rfl) pa_nil))))) (pw_or1 (pt_val (pe_callB call_isi (by rfl) B.isinstance (by decide +kernel) (pa_cons (pv 0) (pa_cons (pe_bltn (v := V.ty "bool") (u := Value.type "bool") (by rfl) B.bool (by decide +kernel) rfl) pa_nil)))))))
      (pss_one (ps_ret pe_bl))
      pss_nil)
    (pss_one (ps_ret (pe_chain op_le op_le (pv 1) (pv 0) (pv 2))))), ?_⟩
  refine ⟨_, rfl, x, _, _, _, isInt2 d, rfl, ClsV.ty _, hd.ty, kit_ty (kit_int d), _, rfl, ?_⟩
  have no : isNum d lo hi = false → Q (.bl false) H := fun e => by rw [e] at k; exact k
  cases hi2 : isInt2 d with
  | false =>
    refine iteT ?_
    refine iteT ?_
    exact no (by cases d <;> first | rfl | cases hi2)
  | true =>
    refine iteF ?_
    refine ⟨_, rfl, x, _, _, _, isBool d, rfl, ClsV.ty _, hd.ty, kit_ty (kit_bool d), _, rfl, ?_⟩
    cases hb : isBool d with
    | true =>
      refine iteT ?_
      exact no (by cases d <;> first | rfl | cases hb)
    | false =>
      refine iteF ?_
      cases d with
      | int i =>
        cases hd with
        | data hd =>
          cases hd
          refine ⟨_, rfl, _, rfl, _, _, rfl, rfl, _, rfl, ?_⟩
          have e : isNum (.int i) lo hi = (decide (lo ≤ i) && decide (i ≤ hi)) := rfl
          rw [e] at k
          cases h1 : decide (lo ≤ i) with
          | true =>
            rw [h1] at k
            refine iteT ?_
            exact ⟨_, rfl, _, _, rfl, rfl, k⟩
          | false =>
            rw [h1] at k
            exact iteF k
      | _ => first | (simp [isInt2] at hi2; done) | (simp [isBool] at hb; done)

/-- a def that calls itself -/
theorem rec_has {x : Str} {st : Stmt} {ps : List Str} {S : Nat → Sp} (d : Def K mg x st ps) (no : ∀ vs H Q E, ¬ S 0 vs H Q E)
    (step : ∀ n, Has P w K mg base CX0 (n + 1) x ps (S n) → ∀ f fd, Fun K x x st f fd → FnOk P w K mg base CX0 (n + 2) f fd ps (S (n + 1))) : ∀ n, Has P w K mg base CX0 (n + 1) x ps (S n)
  | 0 => d.has fun f fd F => ⟨fun vs H Q E h => absurd h (no vs H Q E), fun A outer s H args us vs Q E _ _ _ _ h => absurd h (no vs H Q E)⟩
  | n + 1 => d.has fun f fd F => step n (rec_has d no step n) f fd F
/-- how many there are -/
def spCount (K : PySem.W.Frag) (n : Nat) : Sp := fun vs H Q _ => ∃ (D T o u c : Nat) (dd oo uu tt cc : Int), vs = [.int dd, .int oo, .int uu, .int tt, .int cc] ∧ dd = D ∧ oo = o ∧ uu = u ∧ tt = T ∧ cc = c ∧ D ≤ 4 ∧ 1 ≤ o ∧ o ≤ 4 ∧ 1 ≤ u ∧ u ≤ 4 ∧ T ≤ 4 ∧ c ≤ D ∧ T < n ∧ Q (.int (cnt D T o u c : Nat)) H
theorem cnt_small {D T o u c : Nat} (hD : D ≤ 4) (hT : T ≤ 4) (ho : o ≤ 4) (hu : u ≤ 4) (hc : c ≤ D) : cnt D T o u c < 2 ^ 701 := by
  by_cases h : c = 0
  · rw [h, cnt_0]
    exact lcnt_small hD hT ho hu (Nat.le_refl _)
  · rw [cnt_c (by omega) hc]
    exact lcnt_small hD hT ho hu (Nat.sub_le _ _)
theorem mul_ok {a b : Nat} (ha : a < 2 ^ 701) (hb : b < 2 ^ 701) : CMulW (a : Int) (b : Int) := wide_mul (a := 701) (b := 701) ha hb (by decide) (by decide) (by decide)
theorem rec_hasV {x : Str} {st : Stmt} {ps : List Str} {dvs : List V} {S : Nat → Sp} (d : DefV K mg x st ps dvs) (no : ∀ vs H Q E, ¬ S 0 vs H Q E)
    (step : ∀ n, Has P w K mg base CX0 (n + 1) x ps (S n) → ∀ f fd, FunV K x st dvs f fd → FnOk P w K mg base CX0 (n + 2) f fd ps (S (n + 1))) : ∀ n, Has P w K mg base CX0 (n + 1) x ps (S n)
  | 0 => d.has fun f fd F => ⟨fun vs H Q E h => absurd h (no vs H Q E), fun A outer s H args us vs Q E _ _ _ _ h => absurd h (no vs H Q E)⟩
  | n + 1 => d.has fun f fd F => step n (rec_hasV d no step n) f fd F
theorem ok_count (n : Nat) {f : Addr} {fd : FuncData} (B : Blt mg) (gcount_views : Has P w K mg base CX0 (n + 1) "count_views" ["D", "own", "other", "reach", "colour"] (spCount K n))
    (F : FunV K "count_views" scount_views [.int 0] f fd) : FnOk P w K mg base CX0 (n + 2) f fd ["D", "own", "other", "reach", "colour"] (spCount K (n + 1)) := by
  have sc : FnScope ["D", "own", "other", "reach", "colour", "many", "behind"] ["D", "own", "other", "reach", "colour"] (defScope scount_views) := ⟨rfl, rfl, rfl, by decide +kernel, rfl, by decide +kernel, by decide +kernel⟩
  refine funV_ok F sc (fun vs H Q E h => ?_) (fun cdv A outer s H vs Q E hr h => ?_)
  · obtain ⟨_, _, _, _, _, _, _, _, _, _, rfl, _⟩ := h
    rfl
  obtain ⟨D, T, o, u, c, dd, oo, uu, tt, cc, rfl, rfl, rfl, rfl, rfl, rfl, hD, o1, o4, u1, u4, hT, hc, hn, k⟩ := h
  refine ⟨_, (pss_cons (ps_set (i := 5) sc.nd rfl (Or.inl rfl) (pv 1))
    (pss_cons (ps_if (pt_cmpR op_gt (pv 3) pe_int (nomark _))
      (pss_one (ps_for PassesOwn.never rfl (pi_range2 (by rfl) B.range (pa_cons pe_int (pa_cons (pe_op op_add (pv 0) pe_int) pa_nil))) (pg_name (i := 6) sc.nd rfl (Or.inl rfl))
        (pss_one (ps_if (pt_cmpR op_nei (pv 6) (pv 4) (nomark _))
          (pss_one (ps_set (i := 5) sc.nd rfl (Or.inl rfl) (pe_op op_mulW (pv 5) (pc gcount_views hr (pa_cons (pv 0) (pa_cons (pv 2) (pa_cons (pv 1) (pa_cons (pe_op op_sub (pv 3) pe_int) (pa_cons (pv 6) pa_nil)))))))))
          pss_nil))))
      pss_nil)
    (pss_one (ps_ret (pv 5))))), ?_⟩
  refine ⟨_, rfl, ?_⟩
  refine ⟨_, rfl, _, _, rfl, rfl, _, rfl, ?_⟩
  cases T with
  | zero =>
    refine iteF ?_
    exact ⟨_, rfl, k⟩
  | succ T =>
    have pos : (0 : Int) < ((T + 1 : Nat) : Int) := by omega
    rw [decide_eq_true pos]
    refine iteT ?_
    refine ⟨_, rfl, _, _, rfl, rfl, 1, (D : Int) + 1, rfl, ⟨by decide, by decide, by omega, by omega⟩, for_range (lo := 1) (n := ((D : Int) + 1 - 1).toNat) (fun i σ H' => H' = H ∧ ∃ bv : Option V, σ = [some (.int D), some (.int o), some (.int u), some (.int ((T + 1 : Nat) : Int)), some (.int c), some (.int (cpt D T o u c i : Nat)), bv])
      ⟨rfl, none, rfl⟩ ?_ ?_⟩
    · rintro i σ H' hi ⟨rfl, bv, rfl⟩
      have iD : i < D := by omega
      refine ⟨_, rfl, _, rfl, _, _, rfl, rfl, _, rfl, ?_⟩
      refine ite2 (fun h => ?_) (fun h => ?_)
      · have ne : ¬ (1 + (i : Int) = (c : Int)) := by simpa using h
        have ne' : i + 1 ≠ c := by omega
        refine ⟨_, rfl, _, rfl, _, rfl, _, rfl, _, rfl, _, _, rfl, rfl, _, rfl, D, T, u, o, i + 1, _, _, _, _, _, rfl, rfl, rfl, rfl, by omega, by omega, hD, u1, u4, o1, o4, by omega, by omega, by omega, ?_⟩
        refine ⟨_, _, rfl, rfl, mul_ok ?_ ?_, ?_⟩
        · exact Nat.lt_of_le_of_lt (cpt_le o1 u1 (Nat.le_of_lt iD)) (cnt_small hD hT o4 u4 hc)
        · exact cnt_small hD (by omega) u4 o4 iD
        · refine ⟨rfl, some (.int (1 + (i : Int))), ?_⟩
          rw [cpt_succ, if_neg ne', Int.natCast_mul]
          rfl
      · have e : 1 + (i : Int) = (c : Int) := by simpa using h
        refine ⟨rfl, some (.int (1 + (i : Int))), ?_⟩
        rw [cpt_succ, if_pos (by omega)]
        rfl
    · rintro σ H' ⟨rfl, bv, rfl⟩
      rw [show ((D : Int) + 1 - 1).toNat = D by omega]
      exact ⟨_, rfl, k⟩
/-- the law's own -/
def spLCount (K : PySem.W.Frag) (n : Nat) : Sp := fun vs H Q _ => ∃ (D T o u w : Nat) (dd oo uu tt ww : Int), vs = [.int dd, .int oo, .int uu, .int tt, .int ww] ∧ dd = D ∧ oo = o ∧ uu = u ∧ tt = T ∧ ww = w ∧ 1 ≤ D ∧ D ≤ 4 ∧ 1 ≤ o ∧ o ≤ 4 ∧ 1 ≤ u ∧ u ≤ 4 ∧ T ≤ 4 ∧ w ≤ D ∧ T < n ∧ Q (.int (lcnt D T o u w : Nat)) H
theorem ok_lcount (n : Nat) {f : Addr} {fd : FuncData} (B : Blt mg) (g_law_count : Has P w K mg base CX0 (n + 1) "_law_count" ["colours", "own", "other", "reach", "ways"] (spLCount K n))
    (F : Fun K "_law_count" "_law_count" s_law_count f fd) : FnOk P w K mg base CX0 (n + 2) f fd ["colours", "own", "other", "reach", "ways"] (spLCount K (n + 1)) := by
  have sc : FnScope ["colours", "own", "other", "reach", "ways", "behind", "product", "k"] ["colours", "own", "other", "reach", "ways"] (defScope s_law_count) := ⟨rfl, rfl, rfl, by decide +kernel, rfl, by decide +kernel, by decide +kernel⟩
  refine F.ok sc (fun vs H Q E h => ?_) (fun cdv A outer s H vs Q E hr h => ?_)
  · obtain ⟨_, _, _, _, _, _, _, _, _, _, rfl, _⟩ := h
    rfl
  obtain ⟨D, T, o, u, w, dd, oo, uu, tt, ww, rfl, rfl, rfl, rfl, rfl, rfl, hD1, hD, o1, o4, u1, u4, hT, hw, hn, k⟩ := h
  refine ⟨_, (pss_cons (ps_if (pt_cmpR op_eqi (pv 3) pe_int (nomark _))
      (pss_one (ps_ret (pv 1)))
      pss_nil)
    (pss_cons (ps_set (i := 5) sc.nd rfl (Or.inl rfl) (pc g_law_count hr (pa_cons (pv 0) (pa_cons (pv 2) (pa_cons (pv 1) (pa_cons (pe_op op_sub (pv 3) pe_int) (pa_cons (pe_op op_sub (pv 0) pe_int) pa_nil)))))))
    (pss_cons (ps_set (i := 6) sc.nd rfl (Or.inl rfl) (pv 1))
    (pss_cons (ps_for PassesOwn.never rfl (pi_range1 (by rfl) B.range (pa_cons (pv 4) pa_nil)) (pg_name (i := 7) sc.nd rfl (Or.inl rfl))
      (pss_one (ps_set (i := 6) sc.nd rfl (Or.inl rfl) (pe_op op_mulW (pv 6) (pv 5)))))
    (pss_one (ps_ret (pv 6))))))), ?_⟩
  refine ⟨_, rfl, _, _, rfl, rfl, _, rfl, ?_⟩
  cases T with
  | zero =>
    refine iteT ?_
    exact ⟨_, rfl, k⟩
  | succ T =>
    have nz : ¬ ((T + 1 : Nat) : Int) = 0 := by omega
    rw [decide_eq_false nz]
    refine iteF ?_
    refine ⟨_, rfl, _, rfl, _, rfl, _, rfl, _, _, rfl, rfl, _, rfl, _, _, rfl, rfl, D, T, u, o, D - 1, _, _, _, _, _, rfl, rfl, rfl, rfl, by omega, by omega, hD1, hD, u1, u4, o1, o4, by omega, by omega, by omega, ?_⟩
    refine ⟨_, rfl, _, rfl, (w : Int), rfl, by omega, by omega, for_range (lo := 0) (n := (w : Int).toNat) (fun i σ H' => H' = H ∧ ∃ bv : Option V, σ = [some (.int D), some (.int o), some (.int u), some (.int ((T + 1 : Nat) : Int)), some (.int w), some (.int (lcnt D T u o (D - 1) : Nat)), some (.int ((o * lcnt D T u o (D - 1) ^ i : Nat) : Int)), bv])
      ⟨rfl, none, by rw [Nat.pow_zero, Nat.mul_one]; rfl⟩ ?_ ?_⟩
    · rintro i σ H' hi ⟨rfl, bv, rfl⟩
      refine ⟨_, rfl, _, rfl, _, _, rfl, rfl, mul_ok ?_ ?_, ?_⟩
      · exact lcnt_small (T := T + 1) hD hT o4 u4 (show i ≤ D by omega)
      · exact lcnt_small hD (by omega) u4 o4 (Nat.sub_le _ _)
      · refine ⟨rfl, some (.int (0 + (i : Int))), ?_⟩
        rw [Nat.pow_succ, ← Nat.mul_assoc, Int.natCast_mul (o * _)]
        rfl
    · rintro σ H' ⟨rfl, bv, rfl⟩
      exact ⟨_, rfl, k⟩
theorem has_count (B : Blt mg) (d : DefV K mg "count_views" scount_views ["D", "own", "other", "reach", "colour"] [.int 0]) (n : Nat) : Has P w K mg base CX0 (n + 1) "count_views" ["D", "own", "other", "reach", "colour"] (spCount K n) :=
  rec_hasV d (fun vs H Q E h => by
    obtain ⟨_, _, _, _, _, _, _, _, _, _, _, _, _, _, _, _, _, _, _, _, _, _, _, h, _⟩ := h
    omega) (fun n g f fd F => ok_count n B g F) n
theorem has_lcount (B : Blt mg) (d : Def K mg "_law_count" s_law_count ["colours", "own", "other", "reach", "ways"]) (n : Nat) : Has P w K mg base CX0 (n + 1) "_law_count" ["colours", "own", "other", "reach", "ways"] (spLCount K n) :=
  rec_has d (fun vs H Q E h => by
    obtain ⟨_, _, _, _, _, _, _, _, _, _, _, _, _, _, _, _, _, _, _, _, _, _, _, _, h, _⟩ := h
    omega) (fun n g f fd F => ok_lcount n B g F) n
end
section
variable {P : Program} {w : World} {K : PySem.W.Frag} {mg : Str → Option Value} {base : Heap}
theorem itl_walk {a : Addr} {xs : List V} {B : (Hp → Prop) → V → Hp → Prop} {H0 : Hp} {Qd : Hp → Prop} (Pv : Nat → Hp → Prop) (h0 : Pv 0 H0) (hl : ∀ i H, i ≤ xs.length → Pv i H → SqL K H a xs)
    (hs : ∀ i x H, xs[i]? = some x → Pv i H → B (Pv (i + 1)) x H) (hd : ∀ H, Pv xs.length H → Qd H) :
    ∃ W : Nat → Nat → Hp → Prop, (∃ m, W 0 m H0) ∧ ∀ i m H, W i m H →
      ((Itl K a).stop i H ∧ Qd H) ∨ ((Itl K a).go i H ∧ ∃ Nx : Hp → Prop, (∀ H', Nx H' → ∃ m', m' < m ∧ W (i + 1) m' H') ∧ ∀ x H', (Itl K a).yld i H x H' → B Nx x H') := by
  refine ⟨fun i m H => m = xs.length - i ∧ i ≤ xs.length ∧ Pv i H, ⟨xs.length, by simp, Nat.zero_le _, h0⟩, ?_⟩
  rintro i m H ⟨rfl, hi, p⟩
  have q := hl i H hi p
  by_cases hlt : i < xs.length
  · refine .inr ⟨⟨xs, xs[i], q, by simp [hlt]⟩, Pv (i + 1), fun H' p' => ⟨xs.length - (i + 1), by omega, rfl, hlt, p'⟩, fun x H' y => ?_⟩
    obtain ⟨e, y⟩ := y
    subst e
    exact hs i x _ (y xs q) p
  · have e : i = xs.length := by omega
    subst e
    exact .inl ⟨⟨xs, q, Nat.le_refl _⟩, hd H p⟩
theorem itr_walk {lo : Int} {n : Nat} {B : (Hp → Prop) → V → Hp → Prop} {H0 : Hp} {Qd : Hp → Prop} (Pv : Nat → Hp → Prop) (h0 : Pv 0 H0)
    (hs : ∀ i H, i < n → Pv i H → B (Pv (i + 1)) (.int (lo + i)) H) (hd : ∀ H, Pv n H → Qd H) :
    ∃ W : Nat → Nat → Hp → Prop, (∃ m, W 0 m H0) ∧ ∀ i m H, W i m H →
      ((Itr lo n).stop i H ∧ Qd H) ∨ ((Itr lo n).go i H ∧ ∃ Nx : Hp → Prop, (∀ H', Nx H' → ∃ m', m' < m ∧ W (i + 1) m' H') ∧ ∀ x H', (Itr lo n).yld i H x H' → B Nx x H') := by
  refine ⟨fun i m H => m = n - i ∧ i ≤ n ∧ Pv i H, ⟨n, by simp, Nat.zero_le _, h0⟩, ?_⟩
  rintro i m H ⟨rfl, hi, p⟩
  by_cases hlt : i < n
  · refine .inr ⟨hlt, Pv (i + 1), fun H' p' => ⟨n - (i + 1), by omega, rfl, hlt, p'⟩, fun x H' y => ?_⟩
    obtain ⟨e, y⟩ := y
    subst e y
    exact hs i _ hlt p
  · have e : i = n := by omega
    subst e
    exact .inl ⟨Nat.le_refl _, hd H p⟩
/-- a list that grows since H0 -/
structure Acc (K : PySem.W.Frag) (H0 : Hp) (p : Addr) (ds : List PyData) (H : Hp) : Prop where
  free : H0 p = none
  same : Same H0 H
  ex : ∃ acc, H p = some (.lst acc) ∧ DtAll K H acc ds
theorem Acc.start {H0 : Hp} {p : Addr} (h : H0 p = none) : Acc K H0 p [] (upd H0 p (.lst [])) := ⟨h, same_new h _, [], upd_same, .nil⟩
theorem Acc.at {H0 H H' : Hp} {p : Addr} {ds : List PyData} (a : Acc K H0 p ds H) (s : Same H H') : ∃ acc, H' p = some (.lst acc) ∧ acc.length = ds.length := by
  obtain ⟨acc, e, d⟩ := a.ex
  exact ⟨acc, s _ _ e, d.len⟩
theorem Acc.push {H0 H H' : Hp} {p : Addr} {ds : List PyData} {acc : List V} {v : V} {d : PyData} (a : Acc K H0 p ds H) (s : Same H H') (e : H' p = some (.lst acc)) (hv : Dt K H' v d) : Acc K H0 p (ds ++ [d]) (upd H' p (.lst (acc ++ [v]))) := by
  obtain ⟨acc0, e0, d0⟩ := a.ex
  have e1 := s _ _ e0
  rw [e] at e1
  cases e1
  have t := tups_lst (ys := acc ++ [v]) e
  exact ⟨a.free, same_own (fun b o h => s b o (a.same b o h)) a.free _, _, upd_same, (d0.stay (s.tups.trans t)).app (.cons (hv.stay t) .nil)⟩
theorem dt_tup {H : Hp} {x : V} {ds : List PyData} (h : Dt K H x (.tuple ds)) : ∃ a xs, x = .ref a ∧ SqT K H a xs ∧ DtAll K H xs ds := by
  cases h with
  | tup h1 h2 => exact ⟨_, _, rfl, h1, h2⟩
theorem _root_.LG.DtAll.tups {H : Hp} {xs : List V} {R : List (List PyData)} {i : Nat} {x : V} (h : DtAll K H xs (R.map PyData.tuple)) (hx : xs[i]? = some x) : ∃ a ys r, R[i]? = some r ∧ x = .ref a ∧ SqT K H a ys ∧ DtAll K H ys r := by
  obtain ⟨d, hd, hv⟩ := h.of hx
  rw [List.getElem?_map] at hd
  cases e : R[i]? with
  | none => rw [e] at hd; cases hd
  | some r =>
    rw [e] at hd
    cases hd
    obtain ⟨a, ys, rfl, h1, h2⟩ := dt_tup hv
    exact ⟨a, ys, r, rfl, rfl, h1, h2⟩
theorem ch_take {R : List (List PyData)} {P : List PyData} {i : Nat} {r : List PyData} (h : R[i]? = some r) : chS (R.take (i + 1)) P = chS (R.take i) P ++ P.map fun it => r ++ [it] := by
  rw [take_more h]
  unfold chS
  rw [List.flatMap_append]
  simp
theorem ch_lt {R : List (List PyData)} {P : List PyData} {i j : Nat} (hi : i < R.length) (hj : j < P.length) : (chS (R.take i) P).length + j < (chS R P).length := by
  rw [chS_len, chS_len, List.length_take, Nat.min_eq_left (Nat.le_of_lt hi)]
  have := Nat.mul_le_mul_right P.length (Nat.succ_le_of_lt hi)
  rw [Nat.succ_mul] at this
  omega
theorem rws_row {D T o u c : Nat} : ∀ n, ∀ r ∈ rws D T o u c n, r.length = n
  | 0, r, h => by
    have : r = [] := by simpa [rws] using h
    rw [this]
    rfl
  | n + 1, r, h => by
    rw [rws_succ] at h
    unfold chS at h
    rw [List.mem_flatMap] at h
    obtain ⟨q, hq, h⟩ := h
    rw [List.mem_map] at h
    obtain ⟨z, _, rfl⟩ := h
    rw [List.length_append, rws_row n q hq]
    rfl
/-- the list of branches -/
def spBr (K : PySem.W.Frag) (n : Nat) : Sp := fun vs H Q _ => ∃ (D T o u c : Nat) (dd oo uu tt cc : Int), vs = [.int dd, .int oo, .int uu, .int tt, .int cc] ∧ dd = D ∧ oo = o ∧ uu = u ∧ tt = T ∧ cc = c ∧ D ≤ 4 ∧ 1 ≤ o ∧ o ≤ 4 ∧ 1 ≤ u ∧ u ≤ 4 ∧ cnt D T o u c ≤ 200000 ∧ T < n ∧
  ∀ (p : Addr) (H' : Hp) (xs : List V), H p = none → Same H H' → H' p = some (.lst xs) → DtAll K H' xs (brs D T o u c) → Q (.ref p) H'
theorem lt_line {n : Nat} (h : n ≤ 200000) : n < sizeLine := Nat.lt_of_le_of_lt h (by decide)
theorem le_line {n : Nat} (h : n ≤ 200000) : n ≤ sizeLine := Nat.le_of_lt (lt_line h)
/-- reach 0 -/
theorem zero_take (i : Nat) : (List.range (i + 1)).map (fun x : Nat => PyData.tuple [.int (x : Nat)]) = (List.range i).map (fun x : Nat => PyData.tuple [.int (x : Nat)]) ++ [PyData.tuple [.int (0 + (i : Int))]] := by
  rw [List.range_succ, List.map_append, Int.zero_add]
  rfl
theorem flat_more (R : List (List PyData)) (i : Nat) : ((List.range (i + 1)).flatMap fun x => R.map fun r => PyData.tuple [.int (x : Nat), .tuple r]) = ((List.range i).flatMap fun x => R.map fun r => PyData.tuple [.int (x : Nat), .tuple r]) ++ R.map fun r => PyData.tuple [.int (i : Nat), .tuple r] := by
  rw [List.range_succ, List.flatMap_append]
  simp
theorem flat_len (R : List (List PyData)) (n : Nat) : ((List.range n).flatMap fun x => R.map fun r => PyData.tuple [.int (x : Nat), .tuple r]).length = n * R.length := by
  rw [List.length_flatMap]
  simp only [List.length_map]
  rw [sum_same, List.length_range]
end
section
variable {P : Program} {w : World} {K : PySem.W.Frag} {mg : Str → Option Value} {base : Heap}
/-- lists of data, none of them at l -/
inductive LL (K : PySem.W.Frag) (H : Hp) (l : Addr) : List V → List (List PyData) → Prop
  | nil : LL K H l [] []
  | cons {a : Addr} {xs : List V} {ds : List PyData} {vs : List V} {LS : List (List PyData)} : a ≠ l → H a = some (.lst xs) → DtAll K H xs ds → LL K H l vs LS → LL K H l (.ref a :: vs) (ds :: LS)
theorem LL.stay {H H' : Hp} {l : Addr} (g : ∀ b o, b ≠ l → H b = some o → H' b = some o) (t : TupsStay H H') : ∀ {vs : List V} {LS : List (List PyData)}, LL K H l vs LS → LL K H' l vs LS
  | _, _, .nil => .nil
  | _, _, .cons h1 h2 h3 r => .cons h1 (g _ _ h1 h2) (h3.stay t) (r.stay g t)
theorem LL.app {H : Hp} {l : Addr} : ∀ {vs ws : List V} {LS MS : List (List PyData)}, LL K H l vs LS → LL K H l ws MS → LL K H l (vs ++ ws) (LS ++ MS)
  | _, _, _, _, .nil, b => b
  | _, _, _, _, .cons h1 h2 h3 r, b => .cons h1 h2 h3 (r.app b)
theorem LL.len {H : Hp} {l : Addr} : ∀ {vs : List V} {LS : List (List PyData)}, LL K H l vs LS → vs.length = LS.length
  | _, _, .nil => rfl
  | _, _, .cons _ _ _ r => by rw [List.length_cons, List.length_cons, r.len]
theorem LL.of {H : Hp} {l : Addr} : ∀ {vs : List V} {LS : List (List PyData)} {i : Nat} {v : V}, LL K H l vs LS → vs[i]? = some v → ∃ a xs ds, v = .ref a ∧ LS[i]? = some ds ∧ H a = some (.lst xs) ∧ DtAll K H xs ds
  | _, _, _, _, .nil, e => by simp at e
  | _, _, 0, _, .cons _ h2 h3 _, e => by simp at e; subst e; exact ⟨_, _, _, rfl, rfl, h2, h3⟩
  | _, _, i + 1, d, .cons _ _ _ r, e => by simpa using r.of (i := i) (by simpa using e)
/-- the first m lists' rows -/
def fst (LS : List (List PyData)) (m : Nat) : List (List PyData) := (LS.take m).foldl chS [[]]
theorem fst_succ {LS : List (List PyData)} {m : Nat} {ds : List PyData} (h : LS[m]? = some ds) : fst LS (m + 1) = chS (fst LS m) ds := by
  unfold fst
  rw [take_more h, List.foldl_append]
  rfl
theorem ch_row {R : List (List PyData)} {P : List PyData} {n : Nat} (h : ∀ r ∈ R, r.length ≤ n) : ∀ r ∈ chS R P, r.length ≤ n + 1 := fun r hr => by
  unfold chS at hr
  rw [List.mem_flatMap] at hr
  obtain ⟨q, hq, hr⟩ := hr
  rw [List.mem_map] at hr
  obtain ⟨z, _, rfl⟩ := hr
  have := h q hq
  rw [List.length_append, List.length_singleton]
  omega
theorem fst_row {LS : List (List PyData)} : ∀ m, m ≤ LS.length → ∀ r ∈ fst LS m, r.length ≤ m
  | 0, _, r, h => by
    have : r = [] := by simpa [fst] using h
    rw [this]
    exact Nat.le_refl _
  | m + 1, hm, r, h => by
    rw [fst_succ (ds := LS[m]) (by simp)] at h
    exact ch_row (fst_row m (by omega)) r h
def spChoices (K : PySem.W.Frag) : Sp := fun vs H Q _ => ∃ (l : Addr) (ls : List V) (LS : List (List PyData)), vs = [.ref l] ∧ H l = some (.lst ls) ∧ LL K H l ls LS ∧ LS.length ≤ 4 ∧ (∀ m, m ≤ LS.length → (fst LS m).length ≤ 200000) ∧
  ∀ (p : Addr) (H' : Hp) (xs : List V), H p = none → Same H H' → H' p = some (.lst xs) → DtAll K H' xs ((fst LS LS.length).map PyData.tuple) → Q (.ref p) H'
set_option maxHeartbeats 2000000 in
theorem ok_choices {f : Addr} {fd : FuncData} (F : Fun K "_law_choices" "_law_choices" s_law_choices f fd) : FnOk P w K mg base CX0 1 f fd ["lists"] (spChoices K) := by
  have sc : FnScope ["lists", "found", "items", "longer", "row", "item"] ["lists"] (defScope s_law_choices) := ⟨rfl, rfl, rfl, by decide +kernel, rfl, by decide +kernel, by decide +kernel⟩
  refine F.ok sc (fun vs H Q E h => ?_) (fun cdv A outer s H vs Q E hr h => ?_)
  · obtain ⟨_, _, _, rfl, _⟩ := h
    rfl
  obtain ⟨l, ls, LS, rfl, hl, hLL, h4, hM, k⟩ := h
  refine ⟨_, (pss_cons (ps_set (i := 1) sc.nd rfl (Or.inl rfl) (pe_lst (pa_cons (pe_tup pa_nil) pa_nil)))
    (pss_cons (ps_for PassesOwn.never rfl (pi_list (pv 0)) (pg_name (i := 2) sc.nd rfl (Or.inl rfl))
      (pss_cons (ps_set (i := 3) sc.nd rfl (Or.inl rfl) (pe_lst pa_nil))
      (pss_cons (ps_for PassesOwn.never rfl (pi_list (pv 1)) (pg_name (i := 4) sc.nd rfl (Or.inl rfl))
        (pss_one (ps_for PassesOwn.never rfl (pi_list (pv 2)) (pg_name (i := 5) sc.nd rfl (Or.inl rfl))
          (pss_one (ps_expr (pe_bm PySem.F.plainAttrs_list PySem.F.slot_list_append PySem.F.type_list_append mt_append (pv 3) (pa_cons (pe_op op_plus (pv 4) (pe_tup (pa_cons (pv 5) pa_nil))) pa_nil)))))))
      (pss_one (ps_set (i := 1) sc.nd rfl (Or.inl rfl) (pv 3))))))
    (pss_one (ps_ret (pv 1))))), ?_⟩
  refine ⟨(by show 0 ≤ sizeLine; decide), fun t0 ht0 => ⟨(by show 1 ≤ sizeLine; decide), fun r0 hr0 => ?_⟩⟩
  have s0 := same_new ht0 (.tup [])
  have s1 := same_new hr0 (.lst [.ref t0])
  have s01 : Same H (upd (upd H t0 (.tup [])) r0 (.lst [.ref t0])) := fun b o h => s1 _ _ (s0 _ _ h)
  refine ⟨_, rfl, l, rfl, ⟨_, SqL.of (s01 _ _ hl)⟩, for_list (K := K) (a := l) (xs := ls) (fun m σ H' => ∃ (r : Addr) (xs : List V) (av bv cv dv : Option V), σ = [some (.ref l), some (.ref r), av, bv, cv, dv] ∧
      H r = none ∧ Same H H' ∧ H' r = some (.lst xs) ∧ DtAll K H' xs ((fst LS m).map PyData.tuple))
    ⟨r0, _, none, none, none, none, rfl, s0.free hr0, s01, upd_same, .cons (.tup (SqT.of (s1 _ _ upd_same)) .nil) .nil⟩ (fun m σ H' _ ⟨_, _, _, _, _, _, _, _, s, _⟩ => SqL.of (s _ _ hl)) ?_ ?_⟩
  · rintro m x σ H' hm ⟨r, xs, av, bv, cv, dv, rfl, fr, sm, hr, hx⟩
    obtain ⟨pa, pxs, Ps, rfl, hPs, hpa, hpx⟩ := hLL.of hm
    have mlt : m < LS.length := (List.getElem?_eq_some_iff.mp hPs).1
    have many := hM (m + 1) mlt
    rw [fst_succ hPs] at many
    have hx' : xs.length = (fst LS m).length := by rw [hx.len, List.length_map]
    refine ⟨Nat.zero_le _, fun q hq => ?_⟩
    have qr : q ≠ r := fun e => by
      rw [e, hr] at hq
      cases hq
    refine ⟨_, rfl, r, rfl, ⟨_, SqL.of ((Acc.start (K := K) hq).same r _ hr)⟩, for_list (K := K) (a := r) (xs := xs) (fun i σ H3 => ∃ (cv dv : Option V), σ = [some (.ref l), some (.ref r), some (.ref pa), some (.ref q), cv, dv] ∧ Acc K H' q ((chS ((fst LS m).take i) Ps).map PyData.tuple) H3)
      ⟨cv, dv, rfl, Acc.start hq⟩ (fun i σ H3 _ ⟨_, _, _, a⟩ => SqL.of (a.same _ _ hr)) ?_ ?_⟩
    · rintro i x σ H3 hi ⟨cv, dv, rfl, a⟩
      obtain ⟨ra, ys, rr, hrr, rfl, hra, hys⟩ := (hx.stay a.same.tups).tups hi
      have rlen : rr.length ≤ m := fst_row m (Nat.le_of_lt mlt) rr (List.mem_of_getElem? hrr)
      have ilt : i < (fst LS m).length := (List.getElem?_eq_some_iff.mp hrr).1
      have hpx3 : DtAll K H3 pxs Ps := hpx.stay (sm.tups.trans a.same.tups)
      refine ⟨_, rfl, pa, rfl, ⟨_, SqL.of (a.same _ _ (sm _ _ hpa))⟩, for_list (K := K) (a := pa) (xs := pxs) (fun j σ H4 => ∃ dv : Option V, σ = [some (.ref l), some (.ref r), some (.ref pa), some (.ref q), some (.ref ra), dv] ∧ Acc K H' q ((chS ((fst LS m).take i) Ps).map PyData.tuple ++ (Ps.take j).map fun it => PyData.tuple (rr ++ [it])) H4 ∧ TupsStay H3 H4)
        ⟨dv, rfl, by simpa using a, TupsStay.refl _⟩ (fun j σ H4 _ ⟨_, _, b, _⟩ => SqL.of (b.same _ _ (sm _ _ hpa))) ?_ ?_⟩
      · rintro j y σ H4 hj ⟨dv, rfl, b, s34⟩
        obtain ⟨dy, hdy, hy⟩ := hpx3.of hj
        have jlt : j < Ps.length := (List.getElem?_eq_some_iff.mp hdy).1
        obtain ⟨acc0, e0, _⟩ := b.at (Same.refl _)
        refine ⟨_, rfl, .inl ⟨rfl, _, SqL.of e0⟩, _, rfl, _, rfl, (by show 1 ≤ sizeLine; decide), fun t ht => ?_⟩
        have st := same_new ht (.tup [y])
        refine ⟨ra, t, ys, [y], rfl, rfl, st.seqT (s34.seq hra), SqT.of upd_same, le_line ?_, fun z H5 s5 hz => ?_⟩
        · rw [hys.len]
          show rr.length + 1 ≤ 200000
          omega
        have s45 : Same H4 H5 := fun b o h => s5 _ _ (st _ _ h)
        obtain ⟨acc, e, el⟩ := b.at s45
        refine ⟨q, _, _, rfl, rfl, e, lt_line ?_, ?_⟩
        · rw [el, List.length_append, List.length_map, List.length_map, List.length_take, Nat.min_eq_left (Nat.le_of_lt jlt)]
          have := ch_lt ilt jlt
          omega
        · have pt := b.push s45 e (.tup hz ((hys.stay (s34.trans s45.tups)).app (.cons (hy.stay (s34.trans s45.tups)) .nil)))
          refine ⟨_, rfl, ?_, s34.trans (s45.tups.trans (tups_lst e))⟩
          rw [take_more hdy, List.map_append, ← List.append_assoc]
          exact pt
      · rintro σ H4 ⟨dv, rfl, b, s34⟩
        refine ⟨_, _, rfl, ?_⟩
        rw [ch_take hrr, List.map_append]
        have el : pxs.length = Ps.length := hpx.len
        rw [el, List.take_of_length_le (Nat.le_refl _)] at b
        rw [List.map_map]
        exact b
    · rintro σ H3 ⟨cv, dv, rfl, fr3, sm3, acc, e, d⟩
      refine ⟨_, rfl, q, acc, _, _, _, _, rfl, sm.free fr3, fun b o h => sm3 _ _ (sm _ _ h), e, ?_⟩
      rw [hx', List.take_of_length_le (Nat.le_refl _)] at d
      rw [fst_succ hPs]
      exact d
  · rintro σ H' ⟨r, xs, av, bv, cv, dv, rfl, fr, sm, hr, hx⟩
    rw [hLL.len] at hx
    exact ⟨_, rfl, k r H' xs fr sm hr hx⟩
theorem pts_fst (D T o u c : Nat) : ∀ m, m ≤ D → fst (pts D T o u c) m = rws D T o u c m := fun m hm => by
  unfold fst pts rws
  rw [← List.map_take, List.take_range, Nat.min_eq_left hm]
theorem pts_len (D T o u c : Nat) : (pts D T o u c).length = D := by simp [pts]
theorem pts_take (D T o u c i : Nat) (h : i < D) : (pts D T o u c).take (i + 1) = (pts D T o u c).take i ++ [if i + 1 = c then [PyData.none] else brs D T u o (i + 1)] := by
  refine take_more ?_
  unfold pts
  rw [List.getElem?_map, List.getElem?_range h]
  rfl
set_option maxHeartbeats 2000000 in
theorem ok_lbr (n : Nat) {f : Addr} {fd : FuncData} (B : Blt mg) (g_law_choices : Has P w K mg base CX0 1 "_law_choices" ["lists"] (spChoices K)) (g_law_branches : Has P w K mg base CX0 (n + 1) "_law_branches" ["colours", "own", "other", "reach", "colour"] (spBr K n))
    (F : Fun K "_law_branches" "_law_branches" s_law_branches f fd) : FnOk P w K mg base CX0 (n + 2) f fd ["colours", "own", "other", "reach", "colour"] (spBr K (n + 1)) := by
  have sc : FnScope ["colours", "own", "other", "reach", "colour", "lists", "c", "parts", "found", "x", "part"] ["colours", "own", "other", "reach", "colour"] (defScope s_law_branches) := ⟨rfl, rfl, rfl, by decide +kernel, rfl, by decide +kernel, by decide +kernel⟩
  refine F.ok sc (fun vs H Q E h => ?_) (fun cdv A outer s H vs Q E hr h => ?_)
  · obtain ⟨_, _, _, _, _, _, _, _, _, _, rfl, _⟩ := h
    rfl
  obtain ⟨D, T, o, u, c, dd, oo, uu, tt, cc, rfl, rfl, rfl, rfl, rfl, rfl, hD, o1, o4, u1, u4, hM, hn, k⟩ := h
  refine ⟨_, (pss_cons (ps_if (pt_cmpR op_eqi (pv 3) pe_int (nomark _))
      (pss_one (ps_ret (pe_lc (own := [("x", 9)]) (g := gName 9) (tt := tYes) rfl sc.nd (pi_range1 (by rfl) B.range (pa_cons (pv 1) pa_nil)) (blkOk_by (N := ["colours", "own", "other", "reach", "colour", "lists", "c", "parts", "found", "x", "part"]) (sc := defScope s_law_branches) (by decide +kernel)) (fun _ _ _ _ _ => pg_name (i := 9) sc.nd rfl (Or.inl rfl)) (fun _ _ _ _ _ => pts_nil) (fun _ _ _ _ _ => (pe_tup (pa_cons (pv 9) pa_nil))))))
      pss_nil)
    (pss_cons (ps_set (i := 5) sc.nd rfl (Or.inl rfl) (pe_lst pa_nil))
    (pss_cons (ps_for PassesOwn.never rfl (pi_range2 (by rfl) B.range (pa_cons pe_int (pa_cons (pe_op op_add (pv 0) pe_int) pa_nil))) (pg_name (i := 6) sc.nd rfl (Or.inl rfl))
      (pss_one (ps_if (pt_cmpR op_eqi (pv 6) (pv 4) (nomark _))
        (pss_one (ps_expr (pe_bm PySem.F.plainAttrs_list PySem.F.slot_list_append PySem.F.type_list_append mt_append (pv 5) (pa_cons (pe_lst (pa_cons pe_non pa_nil)) pa_nil))))
        (pss_one (ps_expr (pe_bm PySem.F.plainAttrs_list PySem.F.slot_list_append PySem.F.type_list_append mt_append (pv 5) (pa_cons (pc g_law_branches hr (pa_cons (pv 0) (pa_cons (pv 2) (pa_cons (pv 1) (pa_cons (pe_op op_sub (pv 3) pe_int) (pa_cons (pv 6) pa_nil)))))) pa_nil)))))))
    (pss_cons (ps_set (i := 7) sc.nd rfl (Or.inl rfl) (pc g_law_choices hr (pa_cons (pv 5) pa_nil)))
    (pss_cons (ps_set (i := 8) sc.nd rfl (Or.inl rfl) (pe_lst pa_nil))
    (pss_cons (ps_for PassesOwn.never rfl (pi_range1 (by rfl) B.range (pa_cons (pv 1) pa_nil)) (pg_name (i := 9) sc.nd rfl (Or.inl rfl))
      (pss_one (ps_for PassesOwn.never rfl (pi_list (pv 7)) (pg_name (i := 10) sc.nd rfl (Or.inl rfl))
        (pss_one (ps_expr (pe_bm PySem.F.plainAttrs_list PySem.F.slot_list_append PySem.F.type_list_append mt_append (pv 8) (pa_cons (pe_tup (pa_cons (pv 9) (pa_cons (pv 10) pa_nil))) pa_nil)))))))
    (pss_one (ps_ret (pv 8))))))))), ?_⟩
  refine ⟨_, rfl, _, _, rfl, rfl, _, rfl, ?_⟩
  cases T with
  | zero =>
    refine iteT ?_
    refine ⟨_, rfl, (o : Int), rfl, by omega, by omega, fun p hp => ?_⟩
    refine itr_walk (lo := 0) (n := (o : Int).toNat) (fun i H' => Acc K H p ((List.range i).map fun x : Nat => PyData.tuple [.int (x : Nat)]) H') (Acc.start hp) ?_ ?_
    · intro i H' hi a
      refine ⟨rfl, ?_⟩
      refine ⟨_, rfl, (by show 1 ≤ sizeLine; decide), fun t ht => ?_⟩
      have st := same_new ht (.tup [V.int (0 + (i : Int))])
      obtain ⟨acc, e, el⟩ := a.at st
      refine ⟨acc, e, lt_line ?_, ?_⟩
      · rw [el, List.length_map, List.length_range]
        omega
      · rw [zero_take]
        exact a.push st e (.tup (SqT.of upd_same) (.cons (.int _) .nil))
    · rintro H' ⟨fr, sm, acc, e, d⟩
      exact k p H' acc fr sm e d
  | succ T =>
    have nz : ¬ ((T + 1 : Nat) : Int) = 0 := by omega
    rw [decide_eq_false nz]
    refine iteF ?_
    refine ⟨Nat.zero_le _, fun l hl0 => ?_⟩
    refine ⟨_, rfl, _, _, rfl, rfl, 1, (D : Int) + 1, rfl, ⟨by decide, by decide, by omega, by omega⟩, for_range (lo := 1) (n := ((D : Int) + 1 - 1).toNat) (fun i σ H' => ∃ (cv : Option V) (ls : List V), σ = [some (.int D), some (.int o), some (.int u), some (.int ((T + 1 : Nat) : Int)), some (.int c), some (.ref l), cv, none, none, none, none] ∧
        Same H H' ∧ H' l = some (.lst ls) ∧ LL K H' l ls ((pts D T o u c).take i))
      ⟨none, [], rfl, same_new hl0 _, upd_same, .nil⟩ ?_ ?_⟩
    · rintro i σ H' hi ⟨cv, ls, rfl, sm, hl, hLL⟩
      have iD : i < D := by omega
      have ll : ls.length = i := by rw [hLL.len, List.length_take, pts_len, Nat.min_eq_left (Nat.le_of_lt iD)]
      have lsz : ls.length < sizeLine := lt_line (by omega)
      -- behind the append
      have join : ∀ (pa : Addr) (H2 : Hp) (pxs : List V) (Ps : List PyData), H' pa = none → Same H' H2 → H2 pa = some (.lst pxs) → DtAll K H2 pxs Ps → Ps = (if i + 1 = c then [PyData.none] else brs D T u o (i + 1)) →
          Same H (upd H2 l (.lst (ls ++ [.ref pa]))) ∧ LL K (upd H2 l (.lst (ls ++ [.ref pa]))) l (ls ++ [.ref pa]) ((pts D T o u c).take (i + 1)) := by
        rintro pa H2 pxs Ps hp0 s2 hpa hpx rfl
        have ne : pa ≠ l := fun e => by
          rw [e, hl] at hp0
          cases hp0
        refine ⟨same_own (sm.trans s2) hl0 _, ?_⟩
        rw [pts_take _ _ _ _ _ _ iD]
        have t := tups_lst (ys := ls ++ [.ref pa]) (s2 _ _ hl)
        have off : ∀ b o, b ≠ l → H2 b = some o → (upd H2 l (.lst (ls ++ [.ref pa]))) b = some o := fun b o hb h => by
          rw [upd_ne hb]
          exact h
        exact (hLL.stay (fun b o hb h => off b o hb (s2 _ _ h)) (s2.tups.trans t)).app (.cons ne (off _ _ ne hpa) (hpx.stay t) .nil)
      refine ⟨_, rfl, _, rfl, _, _, rfl, rfl, _, rfl, ?_⟩
      refine ite2 (fun h => ?_) (fun h => ?_)
      · have e : 1 + (i : Int) = (c : Int) := by simpa using h
        refine ⟨_, rfl, .inl ⟨rfl, _, SqL.of hl⟩, (by show 1 ≤ sizeLine; decide), fun pa hpa0 => ?_⟩
        have s2 := same_new hpa0 (.lst [.non])
        refine ⟨l, _, _, rfl, rfl, s2 _ _ hl, lsz, ?_⟩
        obtain ⟨j1, j2⟩ := join pa _ [.non] [.none] hpa0 s2 upd_same (.cons .non .nil) (by rw [if_pos (by omega)])
        exact ⟨_, _, rfl, j1, upd_same, j2⟩
      · have ne : ¬ 1 + (i : Int) = (c : Int) := by simpa using h
        have ne' : i + 1 ≠ c := by omega
        refine ⟨_, rfl, .inl ⟨rfl, _, SqL.of hl⟩, _, rfl, _, rfl, _, rfl, _, rfl, _, _, rfl, rfl, _, rfl, D, T, u, o, i + 1, _, _, _, _, _, rfl, rfl, rfl, rfl, by omega, by omega, hD, u1, u4, o1, o4, Nat.le_trans (cnt_part o1 u1 iD ne') hM, by omega, fun pa H2 pxs hpa0 s2 hpa hpx => ?_⟩
        refine ⟨l, _, _, rfl, rfl, s2 _ _ hl, lsz, ?_⟩
        obtain ⟨j1, j2⟩ := join pa H2 pxs _ hpa0 s2 hpa hpx (by rw [if_neg ne'])
        exact ⟨_, _, rfl, j1, upd_same, j2⟩
    · rintro σ H' ⟨cv, ls, rfl, sm, hl, hLL⟩
      rw [show ((D : Int) + 1 - 1).toNat = D by omega, List.take_of_length_le (by rw [pts_len]; exact Nat.le_refl _)] at hLL
      have tot : o * (rws D T o u c D).length ≤ 200000 := by
        rw [rws_len]
        exact hM
      refine ⟨_, rfl, l, ls, pts D T o u c, rfl, hl, hLL, by rw [pts_len]; exact hD, fun m hm => ?_, fun r H2 xs hr0 s2 hr hx => ?_⟩
      · rw [pts_len] at hm
        rw [pts_fst _ _ _ _ _ _ hm]
        exact rws_le o1 u1 hm hM
      rw [pts_len, pts_fst _ _ _ _ _ _ (Nat.le_refl _)] at hx
      have hx' : xs.length = (rws D T o u c D).length := by rw [hx.len, List.length_map]
      have sm2 : Same H H2 := fun b o h => s2 _ _ (sm _ _ h)
      refine ⟨Nat.zero_le _, fun q hq => ?_⟩
      refine ⟨_, rfl, (o : Int), rfl, by omega, by omega, for_range (lo := 0) (n := (o : Int).toNat) (fun i σ H3 => ∃ (xv pv : Option V), σ = [some (.int D), some (.int o), some (.int u), some (.int ((T + 1 : Nat) : Int)), some (.int c), some (.ref l), cv, some (.ref r), some (.ref q), xv, pv] ∧
          Acc K H2 q ((List.range i).flatMap fun x => (rws D T o u c D).map fun r => PyData.tuple [.int (x : Nat), .tuple r]) H3) ⟨none, none, rfl, Acc.start hq⟩ ?_ ?_⟩
      · rintro i σ H3 hi ⟨xv, pv, rfl, a⟩
        refine ⟨_, rfl, r, rfl, ⟨_, SqL.of (a.same _ _ hr)⟩, for_list (K := K) (a := r) (xs := xs) (fun j σ H4 => ∃ (pv : Option V), σ = [some (.int D), some (.int o), some (.int u), some (.int ((T + 1 : Nat) : Int)), some (.int c), some (.ref l), cv, some (.ref r), some (.ref q), some (.int (0 + (i : Int))), pv] ∧
          Acc K H2 q (((List.range i).flatMap fun x => (rws D T o u c D).map fun r => PyData.tuple [.int (x : Nat), .tuple r]) ++ ((rws D T o u c D).take j).map fun r => PyData.tuple [.int (i : Nat), .tuple r]) H4) ⟨pv, rfl, by simpa using a⟩ (fun j σ H4 _ ⟨_, _, b⟩ => SqL.of (b.same _ _ hr)) ?_ ?_⟩
        · rintro j x σ H4 hj ⟨pv, rfl, b⟩
          obtain ⟨ra, ys, rr, hrr, rfl, hra, hys⟩ := (hx.stay b.same.tups).tups hj
          have jlt : j < (rws D T o u c D).length := (List.getElem?_eq_some_iff.mp hrr).1
          obtain ⟨acc0, e0, _⟩ := b.at (Same.refl _)
          refine ⟨_, rfl, .inl ⟨rfl, _, SqL.of e0⟩, _, rfl, _, rfl, (by show 2 ≤ sizeLine; decide), fun t ht => ?_⟩
          have st := same_new ht (.tup [V.int (0 + (i : Int)), .ref ra])
          obtain ⟨acc, e, el⟩ := b.at st
          refine ⟨q, _, _, rfl, rfl, e, lt_line ?_, ?_⟩
          · rw [el, List.length_append, flat_len, List.length_map, List.length_take, Nat.min_eq_left (Nat.le_of_lt jlt)]
            have := Nat.mul_le_mul_right (rws D T o u c D).length (show i + 1 ≤ o by omega)
            rw [Nat.succ_mul] at this
            omega
          · have pt := b.push st e (.tup (SqT.of upd_same) (.cons (.int _) (.cons (.tup (st.seqT hra) (hys.stay st.tups)) .nil)))
            refine ⟨_, rfl, ?_⟩
            rw [take_more hrr, List.map_append, ← List.append_assoc]
            rw [Int.zero_add] at pt ⊢
            exact pt
        · rintro σ H4 ⟨pv, rfl, b⟩
          rw [hx', List.take_of_length_le (Nat.le_refl _)] at b
          refine ⟨_, _, rfl, ?_⟩
          rw [flat_more]
          exact b
      · rintro σ H3 ⟨xv, pv, rfl, fr, sm3, acc, e, d⟩
        exact ⟨_, rfl, k q H3 acc (sm2.free fr) (fun b o h => sm3 _ _ (sm2 _ _ h)) e d⟩
theorem no_br : ∀ vs H Q E, ¬ spBr K 0 vs H Q E := fun vs H Q E h => by
  obtain ⟨_, _, _, _, _, _, _, _, _, _, _, _, _, _, _, _, _, _, _, _, _, _, h, _⟩ := h
  omega
theorem has_lbr (B : Blt mg) (d : Def K mg "_law_branches" s_law_branches ["colours", "own", "other", "reach", "colour"]) (gc : Has P w K mg base CX0 1 "_law_choices" ["lists"] (spChoices K)) (n : Nat) : Has P w K mg base CX0 (n + 1) "_law_branches" ["colours", "own", "other", "reach", "colour"] (spBr K n) :=
  rec_has d no_br (fun n g f fd F => ok_lbr n B gc g F) n
end
section
variable {P : Program} {w : World} {K : PySem.W.Frag} {mg : Str → Option Value} {base : Heap}
set_option maxHeartbeats 2000000 in
theorem ok_choicesP {f : Addr} {fd : FuncData} (F : Fun K "choices" "choices" schoices f fd) : FnOk P w K mg base CX0 1 f fd ["lists"] (spChoices K) := by
  have sc : FnScope ["lists", "rows", "items", "row", "item"] ["lists"] (defScope schoices) := ⟨rfl, rfl, rfl, by decide +kernel, rfl, by decide +kernel, by decide +kernel⟩
  refine F.ok sc (fun vs H Q E h => ?_) (fun cdv A outer s H vs Q E hr h => ?_)
  · obtain ⟨_, _, _, rfl, _⟩ := h
    rfl
  obtain ⟨l, ls, LS, rfl, hl, hLL, h4, hM, k⟩ := h
  refine ⟨_, (pss_cons (ps_set (i := 1) sc.nd rfl (Or.inl rfl) (pe_lst (pa_cons (pe_tup pa_nil) pa_nil)))
    (pss_cons (ps_for PassesOwn.never rfl (pi_list (pv 0)) (pg_name (i := 2) sc.nd rfl (Or.inr rfl))
      (pss_one (ps_setLc2 (i := 1) (own := [("row", 3), ("item", 4)]) (vs1 := [4]) (g := gName 3) (g1 := gName 4) (tt := tYes) (tt1 := tYes) (wi1 := iList K (tVar 2)) rfl sc.nd rfl rfl (sw_true rfl rfl rfl (by decide +kernel)) (pi_list (pv 1)) (blkOk_by (N := ["lists", "rows", "items", "row", "item"]) (sc := defScope schoices) (by decide +kernel)) (by decide) (fun _ _ _ _ _ => pg_name (i := 3) sc.nd rfl (Or.inl rfl)) (fun _ _ _ _ _ => pts_nil) (fun _ _ _ _ _ => (pi_list (pv 2))) (fun _ _ _ _ _ => pg_name (i := 4) sc.nd rfl (Or.inl rfl)) (fun _ _ _ _ _ => pts_nil) (fun _ _ _ _ _ => (pe_op (show OpR _ _ (rPlus K) from op_plus) (pv 3) (pe_tup (pa_cons (pv 4) pa_nil)))))))
    (pss_one (ps_ret (pv 1))))), ?_⟩
  refine ⟨(by show 0 ≤ sizeLine; decide), fun t0 ht0 => ⟨(by show 1 ≤ sizeLine; decide), fun r0 hr0 => ?_⟩⟩
  have s0 := same_new ht0 (.tup [])
  have s1 := same_new hr0 (.lst [.ref t0])
  have s01 : Same H (upd (upd H t0 (.tup [])) r0 (.lst [.ref t0])) := fun b o h => s1 _ _ (s0 _ _ h)
  refine ⟨_, rfl, l, rfl, ⟨_, SqL.of (s01 _ _ hl)⟩, for_list (K := K) (a := l) (xs := ls) (fun m σ H' => ∃ (r : Addr) (xs : List V) (av : Option V), σ = [some (.ref l), some (.ref r), av, none, none] ∧
      H r = none ∧ Same H H' ∧ H' r = some (.lst xs) ∧ DtAll K H' xs ((fst LS m).map PyData.tuple))
    ⟨r0, _, none, rfl, s0.free hr0, s01, upd_same, .cons (.tup (SqT.of (s1 _ _ upd_same)) .nil) .nil⟩ (fun m σ H' _ ⟨_, _, _, _, _, s, _⟩ => SqL.of (s _ _ hl)) ?_ ?_⟩
  · rintro m x σ H' hm ⟨r, xs, av, rfl, fr, sm, hr, hx⟩
    obtain ⟨pa, pxs, Ps, rfl, hPs, hpa, hpx⟩ := hLL.of hm
    have mlt : m < LS.length := (List.getElem?_eq_some_iff.mp hPs).1
    have many := hM (m + 1) mlt
    rw [fst_succ hPs] at many
    have hx' : xs.length = (fst LS m).length := by rw [hx.len, List.length_map]
    refine ⟨_, rfl, r, rfl, ⟨_, SqL.of hr⟩, fun q hq => ?_⟩
    refine itl_walk (K := K) (a := r) (xs := xs) (fun i H3 => Acc K H' q ((chS ((fst LS m).take i) Ps).map PyData.tuple) H3) (Acc.start hq) (fun i H3 _ a => SqL.of (a.same _ _ hr)) ?_ ?_
    · intro i x H3 hi a
      obtain ⟨ra, ys, rr, hrr, rfl, hra, hys⟩ := (hx.stay a.same.tups).tups hi
      have rlen : rr.length ≤ m := fst_row m (Nat.le_of_lt mlt) rr (List.mem_of_getElem? hrr)
      have ilt : i < (fst LS m).length := (List.getElem?_eq_some_iff.mp hrr).1
      have hpx3 : DtAll K H3 pxs Ps := hpx.stay (sm.tups.trans a.same.tups)
      refine ⟨rfl, ?_⟩
      refine ⟨_, rfl, pa, rfl, ⟨_, SqL.of (a.same _ _ (sm _ _ hpa))⟩, ?_⟩
      refine itl_walk (K := K) (a := pa) (xs := pxs) (fun j H4 => Acc K H' q ((chS ((fst LS m).take i) Ps).map PyData.tuple ++ (Ps.take j).map fun it => PyData.tuple (rr ++ [it])) H4 ∧ TupsStay H3 H4) ⟨by simpa using a, TupsStay.refl _⟩ (fun j H4 _ b => SqL.of (b.1.same _ _ (sm _ _ hpa))) ?_ ?_
      · rintro j y H4 hj ⟨b, s34⟩
        obtain ⟨dy, hdy, hy⟩ := hpx3.of hj
        have jlt : j < Ps.length := (List.getElem?_eq_some_iff.mp hdy).1
        refine ⟨rfl, ?_⟩
        refine ⟨_, rfl, _, rfl, (by show 1 ≤ sizeLine; decide), fun t ht => ?_⟩
        have st := same_new ht (.tup [y])
        refine ⟨ra, t, ys, [y], rfl, rfl, st.seqT (s34.seq hra), SqT.of upd_same, le_line ?_, fun z H5 s5 hz => ?_⟩
        · rw [hys.len]
          show rr.length + 1 ≤ 200000
          omega
        have s45 : Same H4 H5 := fun b o h => s5 _ _ (st _ _ h)
        obtain ⟨acc, e, el⟩ := b.at s45
        refine ⟨acc, e, lt_line ?_, ?_, ?_⟩
        · rw [el, List.length_append, List.length_map, List.length_map, List.length_take, Nat.min_eq_left (Nat.le_of_lt jlt)]
          have := ch_lt ilt jlt
          omega
        · have pt := b.push s45 e (.tup hz ((hys.stay (s34.trans s45.tups)).app (.cons (hy.stay (s34.trans s45.tups)) .nil)))
          rw [take_more hdy, List.map_append, ← List.append_assoc]
          exact pt
        · exact s34.trans (s45.tups.trans (tups_lst e))
      · rintro H4 ⟨b, s34⟩
        rw [ch_take hrr, List.map_append]
        have el : pxs.length = Ps.length := hpx.len
        rw [el, List.take_of_length_le (Nat.le_refl _)] at b
        rw [List.map_map]
        exact b
    · rintro H3 ⟨fr3, sm3, acc, e, d⟩
      refine ⟨q, acc, _, rfl, sm.free fr3, fun b o h => sm3 _ _ (sm _ _ h), e, ?_⟩
      rw [hx', List.take_of_length_le (Nat.le_refl _)] at d
      rw [fst_succ hPs]
      exact d
  · rintro σ H' ⟨r, xs, av, rfl, fr, sm, hr, hx⟩
    rw [hLL.len] at hx
    exact ⟨_, rfl, k r H' xs fr sm hr hx⟩
set_option maxHeartbeats 2000000 in
theorem ok_branches (n : Nat) {f : Addr} {fd : FuncData} (B : Blt mg) (gchoices : Has P w K mg base CX0 1 "choices" ["lists"] (spChoices K)) (g_branches : Has P w K mg base CX0 (n + 1) "_branches" ["D", "own", "other", "reach", "colour"] (spBr K n))
    (F : Fun K "_branches" "_branches" s_branches f fd) : FnOk P w K mg base CX0 (n + 2) f fd ["D", "own", "other", "reach", "colour"] (spBr K (n + 1)) := by
  have sc : FnScope ["D", "own", "other", "reach", "colour", "parts", "behind", "rows", "number", "row"] ["D", "own", "other", "reach", "colour"] (defScope s_branches) := ⟨rfl, rfl, rfl, by decide +kernel, rfl, by decide +kernel, by decide +kernel⟩
  refine F.ok sc (fun vs H Q E h => ?_) (fun cdv A outer s H vs Q E hr h => ?_)
  · obtain ⟨_, _, _, _, _, _, _, _, _, _, rfl, _⟩ := h
    rfl
  obtain ⟨D, T, o, u, c, dd, oo, uu, tt, cc, rfl, rfl, rfl, rfl, rfl, rfl, hD, o1, o4, u1, u4, hM, hn, k⟩ := h
  refine ⟨_, (pss_cons (ps_if (pt_cmpR op_eqi (pv 3) pe_int (nomark _))
      (pss_one (ps_ret (pe_lc (own := [("number", 8)]) (g := gName 8) (tt := tYes) rfl sc.nd (pi_range1 (by rfl) B.range (pa_cons (pv 1) pa_nil)) (blkOk_by (N := ["D", "own", "other", "reach", "colour", "parts", "behind", "rows", "number", "row"]) (sc := defScope s_branches) (by decide +kernel)) (fun _ _ _ _ _ => pg_name (i := 8) sc.nd rfl (Or.inl rfl)) (fun _ _ _ _ _ => pts_nil) (fun _ _ _ _ _ => (pe_tup (pa_cons (pv 8) pa_nil))))))
      pss_nil)
    (pss_cons (ps_set (i := 5) sc.nd rfl (Or.inl rfl) (pe_lst pa_nil))
    (pss_cons (ps_for PassesOwn.never rfl (pi_range2 (by rfl) B.range (pa_cons pe_int (pa_cons (pe_op op_add (pv 0) pe_int) pa_nil))) (pg_name (i := 6) sc.nd rfl (Or.inl rfl))
      (pss_one (ps_if (pt_cmpR op_eqi (pv 6) (pv 4) (nomark _))
        (pss_one (ps_expr (pe_bm PySem.F.plainAttrs_list PySem.F.slot_list_append PySem.F.type_list_append mt_append (pv 5) (pa_cons (pe_lst (pa_cons pe_non pa_nil)) pa_nil))))
        (pss_one (ps_expr (pe_bm PySem.F.plainAttrs_list PySem.F.slot_list_append PySem.F.type_list_append mt_append (pv 5) (pa_cons (pc g_branches hr (pa_cons (pv 0) (pa_cons (pv 2) (pa_cons (pv 1) (pa_cons (pe_op op_sub (pv 3) pe_int) (pa_cons (pv 6) pa_nil)))))) pa_nil)))))))
    (pss_cons (ps_set (i := 7) sc.nd rfl (Or.inr rfl) (pc gchoices hr (pa_cons (pv 5) pa_nil)))
    (pss_one (ps_ret (pe_lc2 (own := [("number", 8), ("row", 9)]) (vs1 := [9]) (g := gName 8) (g1 := gName 9) (tt := tYes) (tt1 := tYes) (wi1 := iList K (tVar 7)) rfl sc.nd (pi_range1 (by rfl) B.range (pa_cons (pv 1) pa_nil)) (blkOk_by (N := ["D", "own", "other", "reach", "colour", "parts", "behind", "rows", "number", "row"]) (sc := defScope s_branches) (by decide +kernel)) (by decide) (fun _ _ _ _ _ => pg_name (i := 8) sc.nd rfl (Or.inl rfl)) (fun _ _ _ _ _ => pts_nil) (fun _ _ _ _ _ => (pi_list (pv 7))) (fun _ _ _ _ _ => pg_name (i := 9) sc.nd rfl (Or.inl rfl)) (fun _ _ _ _ _ => pts_nil) (fun _ _ _ _ _ => (pe_tup (pa_cons (pv 8) (pa_cons (pv 9) pa_nil))))))))))), ?_⟩
  refine ⟨_, rfl, _, _, rfl, rfl, _, rfl, ?_⟩
  cases T with
  | zero =>
    refine iteT ?_
    refine ⟨_, rfl, (o : Int), rfl, by omega, by omega, fun p hp => ?_⟩
    refine itr_walk (lo := 0) (n := (o : Int).toNat) (fun i H' => Acc K H p ((List.range i).map fun x : Nat => PyData.tuple [.int (x : Nat)]) H') (Acc.start hp) ?_ ?_
    · intro i H' hi a
      refine ⟨rfl, ?_⟩
      refine ⟨_, rfl, (by show 1 ≤ sizeLine; decide), fun t ht => ?_⟩
      have st := same_new ht (.tup [V.int (0 + (i : Int))])
      obtain ⟨acc, e, el⟩ := a.at st
      refine ⟨acc, e, lt_line ?_, ?_⟩
      · rw [el, List.length_map, List.length_range]
        omega
      · rw [zero_take]
        exact a.push st e (.tup (SqT.of upd_same) (.cons (.int _) .nil))
    · rintro H' ⟨fr, sm, acc, e, d⟩
      exact k p H' acc fr sm e d
  | succ T =>
    have nz : ¬ ((T + 1 : Nat) : Int) = 0 := by omega
    rw [decide_eq_false nz]
    refine iteF ?_
    refine ⟨Nat.zero_le _, fun l hl0 => ?_⟩
    refine ⟨_, rfl, _, _, rfl, rfl, 1, (D : Int) + 1, rfl, ⟨by decide, by decide, by omega, by omega⟩, for_range (lo := 1) (n := ((D : Int) + 1 - 1).toNat) (fun i σ H' => ∃ (cv : Option V) (ls : List V), σ = [some (.int D), some (.int o), some (.int u), some (.int ((T + 1 : Nat) : Int)), some (.int c), some (.ref l), cv, none, none, none] ∧
        Same H H' ∧ H' l = some (.lst ls) ∧ LL K H' l ls ((pts D T o u c).take i))
      ⟨none, [], rfl, same_new hl0 _, upd_same, .nil⟩ ?_ ?_⟩
    · rintro i σ H' hi ⟨cv, ls, rfl, sm, hl, hLL⟩
      have iD : i < D := by omega
      have ll : ls.length = i := by rw [hLL.len, List.length_take, pts_len, Nat.min_eq_left (Nat.le_of_lt iD)]
      have lsz : ls.length < sizeLine := lt_line (by omega)
      -- behind the append
      have join : ∀ (pa : Addr) (H2 : Hp) (pxs : List V) (Ps : List PyData), H' pa = none → Same H' H2 → H2 pa = some (.lst pxs) → DtAll K H2 pxs Ps → Ps = (if i + 1 = c then [PyData.none] else brs D T u o (i + 1)) →
          Same H (upd H2 l (.lst (ls ++ [.ref pa]))) ∧ LL K (upd H2 l (.lst (ls ++ [.ref pa]))) l (ls ++ [.ref pa]) ((pts D T o u c).take (i + 1)) := by
        rintro pa H2 pxs Ps hp0 s2 hpa hpx rfl
        have ne : pa ≠ l := fun e => by
          rw [e, hl] at hp0
          cases hp0
        refine ⟨same_own (sm.trans s2) hl0 _, ?_⟩
        rw [pts_take _ _ _ _ _ _ iD]
        have t := tups_lst (ys := ls ++ [.ref pa]) (s2 _ _ hl)
        have off : ∀ b o, b ≠ l → H2 b = some o → (upd H2 l (.lst (ls ++ [.ref pa]))) b = some o := fun b o hb h => by
          rw [upd_ne hb]
          exact h
        exact (hLL.stay (fun b o hb h => off b o hb (s2 _ _ h)) (s2.tups.trans t)).app (.cons ne (off _ _ ne hpa) (hpx.stay t) .nil)
      refine ⟨_, rfl, _, rfl, _, _, rfl, rfl, _, rfl, ?_⟩
      refine ite2 (fun h => ?_) (fun h => ?_)
      · have e : 1 + (i : Int) = (c : Int) := by simpa using h
        refine ⟨_, rfl, .inl ⟨rfl, _, SqL.of hl⟩, (by show 1 ≤ sizeLine; decide), fun pa hpa0 => ?_⟩
        have s2 := same_new hpa0 (.lst [.non])
        refine ⟨l, _, _, rfl, rfl, s2 _ _ hl, lsz, ?_⟩
        obtain ⟨j1, j2⟩ := join pa _ [.non] [.none] hpa0 s2 upd_same (.cons .non .nil) (by rw [if_pos (by omega)])
        exact ⟨_, _, rfl, j1, upd_same, j2⟩
      · have ne : ¬ 1 + (i : Int) = (c : Int) := by simpa using h
        have ne' : i + 1 ≠ c := by omega
        refine ⟨_, rfl, .inl ⟨rfl, _, SqL.of hl⟩, _, rfl, _, rfl, _, rfl, _, rfl, _, _, rfl, rfl, _, rfl, D, T, u, o, i + 1, _, _, _, _, _, rfl, rfl, rfl, rfl, by omega, by omega, hD, u1, u4, o1, o4, Nat.le_trans (cnt_part o1 u1 iD ne') hM, by omega, fun pa H2 pxs hpa0 s2 hpa hpx => ?_⟩
        refine ⟨l, _, _, rfl, rfl, s2 _ _ hl, lsz, ?_⟩
        obtain ⟨j1, j2⟩ := join pa H2 pxs _ hpa0 s2 hpa hpx (by rw [if_neg ne'])
        exact ⟨_, _, rfl, j1, upd_same, j2⟩
    · rintro σ H' ⟨cv, ls, rfl, sm, hl, hLL⟩
      rw [show ((D : Int) + 1 - 1).toNat = D by omega, List.take_of_length_le (by rw [pts_len]; exact Nat.le_refl _)] at hLL
      have tot : o * (rws D T o u c D).length ≤ 200000 := by
        rw [rws_len]
        exact hM
      refine ⟨_, rfl, l, ls, pts D T o u c, rfl, hl, hLL, by rw [pts_len]; exact hD, fun m hm => ?_, fun r H2 xs hr0 s2 hr hx => ?_⟩
      · rw [pts_len] at hm
        rw [pts_fst _ _ _ _ _ _ hm]
        exact rws_le o1 u1 hm hM
      rw [pts_len, pts_fst _ _ _ _ _ _ (Nat.le_refl _)] at hx
      have hx' : xs.length = (rws D T o u c D).length := by rw [hx.len, List.length_map]
      have sm2 : Same H H2 := fun b o h => s2 _ _ (sm _ _ h)
      refine ⟨_, rfl, (o : Int), rfl, by omega, by omega, fun q hq => ?_⟩
      refine itr_walk (lo := 0) (n := (o : Int).toNat) (fun i H3 => Acc K H2 q ((List.range i).flatMap fun x => (rws D T o u c D).map fun r => PyData.tuple [.int (x : Nat), .tuple r]) H3) (Acc.start hq) ?_ ?_
      · intro i H3 hi a
        refine ⟨rfl, ?_⟩
        refine ⟨_, rfl, r, rfl, ⟨_, SqL.of (a.same _ _ hr)⟩, ?_⟩
        refine itl_walk (K := K) (a := r) (xs := xs) (fun j H4 => Acc K H2 q (((List.range i).flatMap fun x => (rws D T o u c D).map fun r => PyData.tuple [.int (x : Nat), .tuple r]) ++ ((rws D T o u c D).take j).map fun r => PyData.tuple [.int (i : Nat), .tuple r]) H4) (by simpa using a) (fun j H4 _ b => SqL.of (b.same _ _ hr)) ?_ ?_
        · intro j x H4 hj b
          obtain ⟨ra, ys, rr, hrr, rfl, hra, hys⟩ := (hx.stay b.same.tups).tups hj
          have jlt : j < (rws D T o u c D).length := (List.getElem?_eq_some_iff.mp hrr).1
          refine ⟨rfl, ?_⟩
          refine ⟨_, rfl, _, rfl, (by show 2 ≤ sizeLine; decide), fun t ht => ?_⟩
          have st := same_new ht (.tup [V.int (0 + (i : Int)), .ref ra])
          obtain ⟨acc, e, el⟩ := b.at st
          refine ⟨acc, e, lt_line ?_, ?_⟩
          · rw [el, List.length_append, flat_len, List.length_map, List.length_take, Nat.min_eq_left (Nat.le_of_lt jlt)]
            have := Nat.mul_le_mul_right (rws D T o u c D).length (show i + 1 ≤ o by omega)
            rw [Nat.succ_mul] at this
            omega
          · have pt := b.push st e (.tup (SqT.of upd_same) (.cons (.int _) (.cons (.tup (st.seqT hra) (hys.stay st.tups)) .nil)))
            rw [take_more hrr, List.map_append, ← List.append_assoc]
            rw [Int.zero_add] at pt ⊢
            exact pt
        · intro H4 b
          rw [hx', List.take_of_length_le (Nat.le_refl _)] at b
          rw [flat_more]
          exact b
      · rintro H3 ⟨fr, sm3, acc, e, d⟩
        exact k q H3 acc (sm2.free fr) (fun b o h => sm3 _ _ (sm2 _ _ h)) e d
theorem has_br (B : Blt mg) (d : Def K mg "_branches" s_branches ["D", "own", "other", "reach", "colour"]) (gc : Has P w K mg base CX0 1 "choices" ["lists"] (spChoices K)) (n : Nat) : Has P w K mg base CX0 (n + 1) "_branches" ["D", "own", "other", "reach", "colour"] (spBr K n) :=
  rec_has d no_br (fun n g f fd F => ok_branches n B gc g F) n
end
section
variable {P : Program} {w : World} {K : PySem.W.Frag} {mg : Str → Option Value} {base : Heap}
/-! the first and the last -/
def ev (o : Nat) (b : Int) : Int := (o : Int) - 1 - b * ((o : Int) - 1)
def endD (D : Nat) (b : Int) : Nat → Nat → Nat → Nat → PyData
  | 0, o, _, _ => .tuple [.int (ev o b)]
  | T + 1, o, u, c => .tuple [.int (ev o b), .tuple ((List.range D).map fun i => if i + 1 = c then .none else endD D b T u o (i + 1))]
def ends (D : Nat) (b : Int) (T o u c n : Nat) : List PyData := (List.range n).map fun i => if i + 1 = c then .none else endD D b T u o (i + 1)
theorem ends_succ (D : Nat) (b : Int) (T o u c n : Nat) : ends D b T o u c (n + 1) = ends D b T o u c n ++ [if n + 1 = c then .none else endD D b T u o (n + 1)] := by
  unfold ends
  rw [List.range_succ, List.map_append]
  rfl
theorem ch_head {f : List (List PyData)} {it : List PyData} {a : List PyData} {b : PyData} (hf : f.head? = some a) (hi : it.head? = some b) : (chS f it).head? = some (a ++ [b]) := by
  cases f with
  | nil => cases hf
  | cons x f =>
    cases it with
    | nil => cases hi
    | cons y it =>
      cases hf
      cases hi
      rfl
theorem ch_last {f : List (List PyData)} {it : List PyData} {a : List PyData} {b : PyData} (hf : f.getLast? = some a) (hi : it.getLast? = some b) : (chS f it).getLast? = some (a ++ [b]) := by
  obtain ⟨f', rfl⟩ := List.getLast?_eq_some_iff.mp hf
  obtain ⟨i', rfl⟩ := List.getLast?_eq_some_iff.mp hi
  unfold chS
  rw [List.flatMap_append, List.flatMap_cons, List.flatMap_nil, List.append_nil, List.map_append, ← List.append_assoc]
  exact List.getLast?_concat
theorem two_ends (D : Nat) : ∀ (T o u c : Nat), 1 ≤ o → 1 ≤ u → (brs D T o u c).head? = some (endD D 1 T o u c) ∧ (brs D T o u c).getLast? = some (endD D 0 T o u c)
  | 0, o, u, c, o1, u1 => by
    obtain ⟨m, rfl⟩ : ∃ m, o = m + 1 := ⟨o - 1, by omega⟩
    have e1 : ev (m + 1) 1 = 0 := by unfold ev; omega
    have e0 : ev (m + 1) 0 = (m : Int) := by unfold ev; omega
    refine ⟨?_, ?_⟩
    · unfold brs endD
      rw [e1, List.range_succ_eq_map]
      rfl
    · unfold brs endD
      rw [e0, List.range_succ, List.map_append]
      exact List.getLast?_concat
  | T + 1, o, u, c, o1, u1 => by
    obtain ⟨m, rfl⟩ : ∃ m, o = m + 1 := ⟨o - 1, by omega⟩
    have e1 : ev (m + 1) 1 = 0 := by unfold ev; omega
    have e0 : ev (m + 1) 0 = (m : Int) := by unfold ev; omega
    have rows : ∀ n, (rws D T (m + 1) u c n).head? = some (ends D 1 T (m + 1) u c n) ∧ (rws D T (m + 1) u c n).getLast? = some (ends D 0 T (m + 1) u c n) := fun n => by
      induction n with
      | zero => exact ⟨rfl, rfl⟩
      | succ n ih =>
        rw [rws_succ, ends_succ, ends_succ]
        by_cases h : n + 1 = c
        · rw [if_pos h, if_pos h, if_pos h]
          exact ⟨ch_head ih.1 rfl, ch_last ih.2 rfl⟩
        · rw [if_neg h, if_neg h, if_neg h]
          obtain ⟨i1, i2⟩ := two_ends D T u (m + 1) (n + 1) u1 o1
          exact ⟨ch_head ih.1 i1, ch_last ih.2 i2⟩
    obtain ⟨r1, r2⟩ := rows D
    refine ⟨?_, ?_⟩
    · rw [brs_rws]
      show _ = some (PyData.tuple [.int (ev (m + 1) 1), .tuple (ends D 1 T (m + 1) u c D)])
      rw [e1, List.range_succ_eq_map, List.flatMap_cons]
      cases e : rws D T (m + 1) u c D with
      | nil =>
        rw [e] at r1
        cases r1
      | cons x xs =>
        rw [e] at r1
        cases r1
        rfl
    · rw [brs_rws]
      show _ = some (PyData.tuple [.int (ev (m + 1) 0), .tuple (ends D 0 T (m + 1) u c D)])
      obtain ⟨ys, e⟩ := List.getLast?_eq_some_iff.mp r2
      rw [e0, flat_more, e, List.map_append, ← List.append_assoc]
      exact List.getLast?_concat
def spEnd (K : PySem.W.Frag) (n : Nat) : Sp := fun vs H Q _ => ∃ (D T o u c : Nat) (dd oo uu tt cc b : Int), vs = [.int dd, .int oo, .int uu, .int tt, .int cc, .int b] ∧ dd = D ∧ oo = o ∧ uu = u ∧ tt = T ∧ cc = c ∧ D ≤ 4 ∧ 0 ≤ b ∧ b ≤ 1 ∧ T < n ∧
  ∀ (p : Addr) (H' : Hp), Same H H' → Dt K H' (.ref p) (endD D b T o u c) → Q (.ref p) H'
theorem ok_end (n : Nat) {f : Addr} {fd : FuncData} (B : Blt mg) (g_law_end : Has P w K mg base CX0 (n + 1) "_law_end" ["colours", "own", "other", "reach", "colour", "least"] (spEnd K n))
    (F : Fun K "_law_end" "_law_end" s_law_end f fd) : FnOk P w K mg base CX0 (n + 2) f fd ["colours", "own", "other", "reach", "colour", "least"] (spEnd K (n + 1)) := by
  have sc : FnScope ["colours", "own", "other", "reach", "colour", "least", "parts", "c"] ["colours", "own", "other", "reach", "colour", "least"] (defScope s_law_end) := ⟨rfl, rfl, rfl, by decide +kernel, rfl, by decide +kernel, by decide +kernel⟩
  refine F.ok sc (fun vs H Q E h => ?_) (fun cdv A outer s H vs Q E hr h => ?_)
  · obtain ⟨_, _, _, _, _, _, _, _, _, _, _, rfl, _⟩ := h
    rfl
  obtain ⟨D, T, o, u, c, dd, oo, uu, tt, cc, b, rfl, rfl, rfl, rfl, rfl, rfl, hD, b0, b1, hn, k⟩ := h
  refine ⟨_, (pss_cons (ps_if (pt_cmpR op_eqi (pv 3) pe_int (nomark _))
      (pss_one (ps_ret (pe_tup (pa_cons (pe_op op_sub (pe_op op_sub (pv 1) pe_int) (pe_op op_mul (pv 5) (pe_op op_sub (pv 1) pe_int))) pa_nil))))
      pss_nil)
    (pss_cons (ps_set (i := 6) sc.nd rfl (Or.inl rfl) (pe_lst pa_nil))
    (pss_cons (ps_for PassesOwn.never rfl (pi_range2 (by rfl) B.range (pa_cons pe_int (pa_cons (pe_op op_add (pv 0) pe_int) pa_nil))) (pg_name (i := 7) sc.nd rfl (Or.inl rfl))
      (pss_one (ps_if (pt_cmpR op_eqi (pv 7) (pv 4) (nomark _))
        (pss_one (ps_expr (pe_bm PySem.F.plainAttrs_list PySem.F.slot_list_append PySem.F.type_list_append mt_append (pv 6) (pa_cons pe_non pa_nil))))
        (pss_one (ps_expr (pe_bm PySem.F.plainAttrs_list PySem.F.slot_list_append PySem.F.type_list_append mt_append (pv 6) (pa_cons (pc g_law_end hr (pa_cons (pv 0) (pa_cons (pv 2) (pa_cons (pv 1) (pa_cons (pe_op op_sub (pv 3) pe_int) (pa_cons (pv 7) (pa_cons (pv 5) pa_nil))))))) pa_nil)))))))
    (pss_one (ps_ret (pe_tup (pa_cons (pe_op op_sub (pe_op op_sub (pv 1) pe_int) (pe_op op_mul (pv 5) (pe_op op_sub (pv 1) pe_int))) (pa_cons (pe_callTy call_tuple_of (by rfl) B.tuple (by decide +kernel) (pa_cons (pv 6) pa_nil)) pa_nil)))))))), ?_⟩
  have hb : -(2 ^ 64) < b ∧ b < 2 ^ 64 := by omega
  refine ⟨_, rfl, _, _, rfl, rfl, _, rfl, ?_⟩
  cases T with
  | zero =>
    refine iteT ?_
    refine ⟨_, rfl, _, _, rfl, rfl, _, rfl, _, rfl, _, _, rfl, rfl, _, _, rfl, rfl, .inl hb, _, _, rfl, rfl, (by show 1 ≤ sizeLine; decide), fun t ht => ?_⟩
    exact k t _ (same_new ht _) (.tup (SqT.of upd_same) (.cons (.int _) .nil))
  | succ T =>
    have nz : ¬ ((T + 1 : Nat) : Int) = 0 := by omega
    rw [decide_eq_false nz]
    refine iteF ?_
    refine ⟨Nat.zero_le _, fun p hp => ?_⟩
    refine ⟨_, rfl, _, _, rfl, rfl, 1, (D : Int) + 1, rfl, ⟨by decide, by decide, by omega, by omega⟩, for_range (lo := 1) (n := ((D : Int) + 1 - 1).toNat) (fun i σ H' => ∃ (cv : Option V), σ = [some (.int D), some (.int o), some (.int u), some (.int ((T + 1 : Nat) : Int)), some (.int c), some (.int b), some (.ref p), cv] ∧ Acc K H p (ends D b T o u c i) H')
      ⟨none, rfl, Acc.start hp⟩ ?_ ?_⟩
    · rintro i σ H' hi ⟨cv, rfl, a⟩
      have iD : i < D := by omega
      obtain ⟨acc0, e0, l0⟩ := a.at (Same.refl _)
      have few : acc0.length < sizeLine := by
        rw [l0]
        unfold ends
        rw [List.length_map, List.length_range]
        exact lt_line (by omega)
      refine ⟨_, rfl, _, rfl, _, _, rfl, rfl, _, rfl, ?_⟩
      refine ite2 (fun h => ?_) (fun h => ?_)
      · have e : 1 + (i : Int) = (c : Int) := by simpa using h
        refine ⟨_, rfl, .inl ⟨rfl, _, SqL.of e0⟩, p, _, _, rfl, rfl, e0, few, ?_⟩
        refine ⟨_, rfl, ?_⟩
        rw [ends_succ, if_pos (by omega)]
        exact a.push (Same.refl _) e0 .non
      · have ne : ¬ 1 + (i : Int) = (c : Int) := by simpa using h
        refine ⟨_, rfl, .inl ⟨rfl, _, SqL.of e0⟩, _, rfl, _, rfl, _, rfl, _, rfl, _, _, rfl, rfl, _, rfl, _, rfl, D, T, u, o, i + 1, _, _, _, _, _, _, rfl, rfl, rfl, rfl, by omega, by omega, hD, b0, b1, by omega, fun q H2 s2 hq => ?_⟩
        refine ⟨p, _, _, rfl, rfl, s2 _ _ e0, few, ?_⟩
        refine ⟨_, rfl, ?_⟩
        rw [ends_succ, if_neg (by omega)]
        exact a.push s2 (s2 _ _ e0) hq
    · rintro σ H' ⟨cv, rfl, fr, sm, acc, e, d⟩
      rw [show ((D : Int) + 1 - 1).toNat = D by omega] at d
      refine ⟨_, rfl, _, _, rfl, rfl, _, rfl, _, rfl, _, _, rfl, rfl, _, _, rfl, rfl, .inl hb, _, _, rfl, rfl, _, rfl, p, acc, rfl, .inl ⟨SqL.of e, fun l hl => ?_⟩⟩
      refine ⟨(by show 2 ≤ sizeLine; decide), fun q hq => ?_⟩
      have nlq : l ≠ q := fun z => by rw [← z, upd_same] at hq; cases hq
      have s2 : Same H' (upd (upd H' l (.tup acc)) q (.tup [.int (ev o b), .ref l])) := (same_new hl _).trans (same_new hq _)
      exact k q _ (sm.trans s2) (.tup (SqT.of upd_same) (.cons (.int _) (.cons (.tup (SqT.of (by rw [upd_ne nlq, upd_same])) (d.stay s2.tups)) .nil)))
theorem has_end (B : Blt mg) (d : Def K mg "_law_end" s_law_end ["colours", "own", "other", "reach", "colour", "least"]) (n : Nat) : Has P w K mg base CX0 (n + 1) "_law_end" ["colours", "own", "other", "reach", "colour", "least"] (spEnd K n) :=
  rec_has d (fun vs H Q E h => by
    obtain ⟨_, _, _, _, _, _, _, _, _, _, _, _, _, _, _, _, _, _, _, _, h, _⟩ := h
    omega) (fun n g f fd F => ok_end n B g F) n
/-! the program's own -/
def spCheck (K : PySem.W.Frag) (C : Addr) : Sp := fun vs H Q E => ∃ (M : Addr → Prop) (r : V) (re : PyData) (lo hi : Int), vs = [r, .int lo, .int hi] ∧ Dq M K H r re ∧ (isNum re lo hi = true → Q .non H) ∧ (isNum re lo hi = false → E (.ref C) none H)
theorem ok_check {C : Addr} {f : Addr} {fd : FuncData} (B : Blt mg) (eBadReach : Err K mg "BadReach" C) (gis_number : Has P w K mg base CX0 1 "is_number" ["value", "low", "high"] (spNumber K)) (F : Fun K "check_reach" "check_reach" scheck_reach f fd) : FnOk P w K mg base (L2.CX P w) 2 f fd ["reach", "low", "high"] (spCheck K C) := by
  have sc : FnScope ["reach", "low", "high"] ["reach", "low", "high"] (defScope scheck_reach) := ⟨rfl, rfl, rfl, by decide +kernel, rfl, by decide +kernel, by decide +kernel⟩
  refine F.okX sc (fun vs H Q E h => ?_) (fun cdv A outer s H vs Q E hr h => ?_)
  · obtain ⟨_, _, _, _, _, rfl, _⟩ := h
    rfl
  obtain ⟨M, r, re, lo, hi, rfl, hd, kt, kf⟩ := h
  refine ⟨_, (pss_one (ps_if (pt_not (pt_val (pc gis_number hr (pa_cons (pv 0) (pa_cons (pv 1) (pa_cons (pv 2) pa_nil))))))
      (pss_one (ps_raise rfl (takes_of rfl rfl rfl rfl) (pmk_own PySem.F.excBase_ValueError eBadReach.xi eBadReach.g eBadReach.k (raises_own eBadReach.b eBadReach.t) rfl)))
      pss_nil)), ?_⟩
  refine ⟨_, rfl, _, rfl, _, rfl, M, r, re, lo, hi, rfl, hd, _, rfl, ?_⟩
  cases hn : isNum re lo hi with
  | true =>
    refine iteF ?_
    exact kt hn
  | false =>
    refine iteT ?_
    exact kf hn
def spMany (K : PySem.W.Frag) (C : Addr) : Sp := fun vs H Q E => ∃ (D T o u c : Nat) (dd oo uu tt cc : Int), vs = [.int dd, .int oo, .int uu, .int tt, .int cc] ∧ dd = D ∧ oo = o ∧ uu = u ∧ tt = T ∧ cc = c ∧ D ≤ 4 ∧ 1 ≤ o ∧ o ≤ 4 ∧ 1 ≤ u ∧ u ≤ 4 ∧ T ≤ 4 ∧ c ≤ D ∧
  (cnt D T o u c ≤ 200000 → Q .non H) ∧ (200000 < cnt D T o u c → E (.ref C) none H)
theorem ok_many {C : Addr} {f : Addr} {fd : FuncData} (T : Cst mg) (eTooMany : Err K mg "TooMany" C) (gcount_views : Has P w K mg base CX0 6 "count_views" ["D", "own", "other", "reach", "colour"] (spCount K 5)) (F : FunV K "check_many" scheck_many [.int 0] f fd) : FnOk P w K mg base (L2.CX P w) 7 f fd ["D", "own", "other", "reach", "colour"] (spMany K C) := by
  have sc : FnScope ["D", "own", "other", "reach", "colour"] ["D", "own", "other", "reach", "colour"] (defScope scheck_many) := ⟨rfl, rfl, rfl, by decide +kernel, rfl, by decide +kernel, by decide +kernel⟩
  obtain ⟨t1, hMOST_VIEWS⟩ := T.MOST_VIEWS
  refine F.ok sc (fun vs H Q E h => ?_) (fun cdv A outer s H vs Q E hr h => ?_)
  · obtain ⟨_, _, _, _, _, _, _, _, _, _, rfl, _⟩ := h
    rfl
  obtain ⟨D, T, o, u, c, dd, oo, uu, tt, cc, rfl, rfl, rfl, rfl, rfl, rfl, hD, o1, o4, u1, u4, hT, hc, kt, kf⟩ := h
  refine ⟨_, (pss_one (ps_if (pt_cmpR op_gt (pc gcount_views hr (pa_cons (pv 0) (pa_cons (pv 1) (pa_cons (pv 2) (pa_cons (pv 3) (pa_cons (pv 4) pa_nil)))))) (pe_glob (v := V.int _) rfl hMOST_VIEWS ⟨_, rfl⟩) (nomark _))
      (pss_one (ps_raise rfl (takes_of rfl rfl rfl rfl) (pmk_own PySem.F.excBase_ValueError eTooMany.xi eTooMany.g eTooMany.k (raises_own eTooMany.b eTooMany.t) rfl)))
      pss_nil)), ?_⟩
  refine ⟨_, rfl, _, rfl, _, rfl, _, rfl, _, rfl, D, T, o, u, c, _, _, _, _, _, rfl, rfl, rfl, rfl, rfl, rfl, hD, o1, o4, u1, u4, hT, hc, by omega, ?_⟩
  refine ⟨_, _, rfl, rfl, _, rfl, ?_⟩
  refine ite2 (fun h => ?_) (fun h => ?_)
  · have := dec_t h
    exact kf (by omega)
  · have := dec_f h
    exact kt (by omega)
/-- all_views and all_branches -/
def allOf (K : PySem.W.Frag) (CB CM : Addr) (H : Hp) (Q : VK) (E : XK) (re : PyData) (D o u c : Nat) : Prop :=
  (isNum re 0 4 = false → E (.ref CB) none H) ∧ ∀ T : Nat, re = .int T → T ≤ 4 → (200000 < cnt D T o u c → E (.ref CM) none H) ∧
    (cnt D T o u c ≤ 200000 → ∀ (p : Addr) (H' : Hp) (xs : List V), H p = none → Same H H' → H' p = some (.lst xs) → DtAll K H' xs (brs D T o u c) → Q (.ref p) H')
theorem num_nat {re : PyData} (h : isNum re 0 4 = true) : ∃ T : Nat, re = .int T ∧ T ≤ 4 := by
  cases re with
  | int i =>
    have h' : (decide (0 ≤ i) && decide (i ≤ 4)) = true := h
    rw [Bool.and_eq_true, decide_eq_true_eq, decide_eq_true_eq] at h'
    exact ⟨i.toNat, by rw [Int.toNat_of_nonneg h'.1], by omega⟩
  | _ => cases h
def spViews (K : PySem.W.Frag) (CB CM : Addr) : Sp := fun vs H Q E => ∃ (M : Addr → Prop) (D o u : Nat) (dd oo uu : Int) (r : V) (re : PyData), vs = [.int dd, .int oo, .int uu, r] ∧ dd = D ∧ oo = o ∧ uu = u ∧ D ≤ 4 ∧ 1 ≤ o ∧ o ≤ 4 ∧ 1 ≤ u ∧ u ≤ 4 ∧ Dq M K H r re ∧ allOf K CB CM H Q E re D o u 0
def spBranches (K : PySem.W.Frag) (CB CM : Addr) : Sp := fun vs H Q E => ∃ (M : Addr → Prop) (D o u c : Nat) (dd oo uu cc : Int) (r : V) (re : PyData), vs = [.int dd, .int oo, .int uu, r, .int cc] ∧ dd = D ∧ oo = o ∧ uu = u ∧ cc = c ∧ D ≤ 4 ∧ 1 ≤ o ∧ o ≤ 4 ∧ 1 ≤ u ∧ u ≤ 4 ∧ c ≤ D ∧ Dq M K H r re ∧ allOf K CB CM H Q E re D o u c
theorem dq_int {M : Addr → Prop} {H : Hp} {x : V} {i : Int} (h : Dq M K H x (.int i)) : x = .int i := by
  cases h with
  | data h =>
    cases h
    rfl
theorem ok_views {CB CM : Addr} {f : Addr} {fd : FuncData} (C : Cst mg) (gcheck_reach : Has P w K mg base (L2.CX P w) 2 "check_reach" ["reach", "low", "high"] (spCheck K CB)) (gcheck_many : Has P w K mg base (L2.CX P w) 7 "check_many" ["D", "own", "other", "reach", "colour"] (spMany K CM))
    (g_branches : Has P w K mg base CX0 6 "_branches" ["D", "own", "other", "reach", "colour"] (spBr K 5)) (F : Fun K "all_views" "all_views" sall_views f fd) : FnOk P w K mg base (L2.CX P w) 8 f fd ["D", "own", "other", "reach"] (spViews K CB CM) := by
  have sc : FnScope ["D", "own", "other", "reach"] ["D", "own", "other", "reach"] (defScope sall_views) := ⟨rfl, rfl, rfl, by decide +kernel, rfl, by decide +kernel, by decide +kernel⟩
  obtain ⟨t1, hMOST_REACH⟩ := C.MOST_REACH
  obtain ⟨t2, hNO_COLOUR⟩ := C.NO_COLOUR
  refine F.okX sc (fun vs H Q E h => ?_) (fun cdv A outer s H vs Q E hr h => ?_)
  · obtain ⟨_, _, _, _, _, _, _, _, _, rfl, _⟩ := h
    rfl
  obtain ⟨M, D, o, u, dd, oo, uu, r, re, rfl, rfl, rfl, rfl, hD, o1, o4, u1, u4, hd, kb, kk⟩ := h
  refine ⟨_, (pss_cons (ps_expr (pcE gcheck_reach hr (takes_of rfl rfl rfl rfl) (pa_cons (pv 3) (pa_cons pe_int (pa_cons (pe_glob (v := V.int _) rfl hMOST_REACH ⟨_, rfl⟩) pa_nil)))))
    (pss_cons (ps_expr (pcE gcheck_many hr (takes_of rfl rfl rfl rfl) (pa_cons (pv 0) (pa_cons (pv 1) (pa_cons (pv 2) (pa_cons (pv 3) (pa_cons (pe_glob (v := V.int _) rfl hNO_COLOUR ⟨_, rfl⟩) pa_nil)))))))
    (pss_one (ps_ret (pc g_branches hr (pa_cons (pv 0) (pa_cons (pv 1) (pa_cons (pv 2) (pa_cons (pv 3) (pa_cons (pe_glob (v := V.int _) rfl hNO_COLOUR ⟨_, rfl⟩) pa_nil)))))))))), ?_⟩
  refine ⟨_, rfl, M, r, re, 0, 4, rfl, hd, fun hn => ?_, kb⟩
  obtain ⟨T, rfl, hT⟩ := num_nat hn
  obtain rfl := dq_int hd
  obtain ⟨km, ko⟩ := kk T rfl hT
  refine ⟨_, rfl, _, rfl, _, rfl, _, rfl, D, T, o, u, 0, _, _, _, _, _, rfl, rfl, rfl, rfl, rfl, rfl, hD, o1, o4, u1, u4, hT, Nat.zero_le _, fun few => ?_, km⟩
  exact ⟨_, rfl, _, rfl, _, rfl, _, rfl, D, T, o, u, 0, _, _, _, _, _, rfl, rfl, rfl, rfl, rfl, rfl, hD, o1, o4, u1, u4, few, by omega, ko few⟩
theorem ok_allbr {CB CM : Addr} {f : Addr} {fd : FuncData} (C : Cst mg) (gcheck_reach : Has P w K mg base (L2.CX P w) 2 "check_reach" ["reach", "low", "high"] (spCheck K CB)) (gcheck_many : Has P w K mg base (L2.CX P w) 7 "check_many" ["D", "own", "other", "reach", "colour"] (spMany K CM))
    (g_branches : Has P w K mg base CX0 6 "_branches" ["D", "own", "other", "reach", "colour"] (spBr K 5)) (F : Fun K "all_branches" "all_branches" sall_branches f fd) : FnOk P w K mg base (L2.CX P w) 8 f fd ["D", "own", "other", "reach", "colour"] (spBranches K CB CM) := by
  have sc : FnScope ["D", "own", "other", "reach", "colour"] ["D", "own", "other", "reach", "colour"] (defScope sall_branches) := ⟨rfl, rfl, rfl, by decide +kernel, rfl, by decide +kernel, by decide +kernel⟩
  obtain ⟨t1, hMOST_REACH⟩ := C.MOST_REACH
  refine F.okX sc (fun vs H Q E h => ?_) (fun cdv A outer s H vs Q E hr h => ?_)
  · obtain ⟨_, _, _, _, _, _, _, _, _, _, _, rfl, _⟩ := h
    rfl
  obtain ⟨M, D, o, u, c, dd, oo, uu, cc, r, re, rfl, rfl, rfl, rfl, rfl, hD, o1, o4, u1, u4, hc, hd, kb, kk⟩ := h
  refine ⟨_, (pss_cons (ps_expr (pcE gcheck_reach hr (takes_of rfl rfl rfl rfl) (pa_cons (pv 3) (pa_cons pe_int (pa_cons (pe_glob (v := V.int _) rfl hMOST_REACH ⟨_, rfl⟩) pa_nil)))))
    (pss_cons (ps_expr (pcE gcheck_many hr (takes_of rfl rfl rfl rfl) (pa_cons (pv 0) (pa_cons (pv 1) (pa_cons (pv 2) (pa_cons (pv 3) (pa_cons (pv 4) pa_nil)))))))
    (pss_one (ps_ret (pc g_branches hr (pa_cons (pv 0) (pa_cons (pv 1) (pa_cons (pv 2) (pa_cons (pv 3) (pa_cons (pv 4) pa_nil)))))))))), ?_⟩
  refine ⟨_, rfl, M, r, re, 0, 4, rfl, hd, fun hn => ?_, kb⟩
  obtain ⟨T, rfl, hT⟩ := num_nat hn
  obtain rfl := dq_int hd
  obtain ⟨km, ko⟩ := kk T rfl hT
  refine ⟨_, rfl, _, rfl, _, rfl, _, rfl, _, rfl, D, T, o, u, c, _, _, _, _, _, rfl, rfl, rfl, rfl, rfl, rfl, hD, o1, o4, u1, u4, hT, hc, fun few => ?_, km⟩
  exact ⟨_, rfl, _, rfl, _, rfl, _, rfl, _, rfl, D, T, o, u, c, _, _, _, _, _, rfl, rfl, rfl, rfl, rfl, rfl, hD, o1, o4, u1, u4, few, by omega, ko few⟩
/-- what the law hears of two calls that are refused -/
def spRefusal (K : PySem.W.Frag) : Sp := fun vs H Q _ => ∃ (M : Addr → Prop) (D o u c : Nat) (dd oo uu cc : Int) (r : V) (re : PyData) (x : Str), vs = [.int dd, .int oo, .int uu, r, .int cc] ∧ dd = D ∧ oo = o ∧ uu = u ∧ cc = c ∧ D ≤ 4 ∧ 1 ≤ o ∧ o ≤ 4 ∧ 1 ≤ u ∧ u ≤ 4 ∧ c ≤ D ∧ Dq M K H r re ∧
  ((isNum re 0 4 = false ∧ x = "reach") ∨ (∃ T : Nat, re = .int T ∧ T ≤ 4 ∧ 200000 < cnt D T o u 0 ∧ 200000 < cnt D T o u c ∧ x = "many")) ∧
  ∀ (p : Addr) (H' : Hp), H p = none → Same H H' → H' p = some (.lst [.str x, .str x]) → Q (.ref p) H'
theorem num_in {T : Nat} (h : T ≤ 4) : isNum (.int (T : Int)) 0 4 = true := by
  show (decide (0 ≤ (T : Int)) && decide ((T : Int) ≤ 4)) = true
  rw [decide_eq_true (by omega), decide_eq_true (by omega)]
  rfl
theorem ok_refusal {CB CM : Addr} {f : Addr} {fd : FuncData} (eBadReach : Err K mg "BadReach" CB) (eTooMany : Err K mg "TooMany" CM) (hbb : PySem.W.exmOne K (.ref CB) (.ref CB) = some true) (hmb : PySem.W.exmOne K (.ref CM) (.ref CB) = some false) (hmm : PySem.W.exmOne K (.ref CM) (.ref CM) = some true)
    (gall_views : Has P w K mg base (L2.CX P w) 8 "all_views" ["D", "own", "other", "reach"] (spViews K CB CM)) (gall_branches : Has P w K mg base (L2.CX P w) 8 "all_branches" ["D", "own", "other", "reach", "colour"] (spBranches K CB CM))
    (F : Fun K "_law_refusal" "_law_refusal" s_law_refusal f fd) : FnOk P w K mg base CX0 9 f fd ["colours", "own", "other", "reach", "colour"] (spRefusal K) := by
  have sc : FnScope ["colours", "own", "other", "reach", "colour", "words"] ["colours", "own", "other", "reach", "colour"] (defScope s_law_refusal) := ⟨rfl, rfl, rfl, by decide +kernel, rfl, by decide +kernel, by decide +kernel⟩
  refine F.ok sc (fun vs H Q E h => ?_) (fun cdv A outer s H vs Q E hr h => ?_)
  · obtain ⟨_, _, _, _, _, _, _, _, _, _, _, _, rfl, _⟩ := h
    rfl
  obtain ⟨M, D, o, u, c, dd, oo, uu, cc, r, re, x, rfl, rfl, rfl, rfl, rfl, hD, o1, o4, u1, u4, hc, hd, h, k⟩ := h
  refine ⟨_, (pss_cons (ps_set (i := 5) sc.nd rfl (Or.inl rfl) (pe_lst pa_nil))
    (pss_cons (ps_try_many rfl rfl takes0 (fun W pn xe tk _ =>
      (pss_cons (ps_expr (pcS gall_views hr tk (pa_cons (pv 0) (pa_cons (pv 1) (pa_cons (pv 2) (pa_cons (pv 3) pa_nil))))))
      (pss_one (ps_expr (show PE _ _ (tBM K "list" rAppend (tVar 5) (tCons (tC (.str "made")) tNil)) from pe_bm PySem.F.plainAttrs_list PySem.F.slot_list_append PySem.F.type_list_append mt_append (pv 5) (pa_cons pe_str pa_nil))))))
      (.cons ⟨rfl, by decide, .inl eBadReach.g⟩ (fun _ _ _ _ _ _ _ => (pss_one (ps_expr (show PE _ _ (tBM K "list" rAppend (tVar 5) (tCons (tC (.str "reach")) tNil)) from pe_bm PySem.F.plainAttrs_list PySem.F.slot_list_append PySem.F.type_list_append mt_append (pv 5) (pa_cons pe_str pa_nil))))) (.cons ⟨rfl, by decide, .inl eTooMany.g⟩ (fun _ _ _ _ _ _ _ => (pss_one (ps_expr (show PE _ _ (tBM K "list" rAppend (tVar 5) (tCons (tC (.str "many")) tNil)) from pe_bm PySem.F.plainAttrs_list PySem.F.slot_list_append PySem.F.type_list_append mt_append (pv 5) (pa_cons pe_str pa_nil))))) .nil)))
    (pss_cons (ps_try_many rfl rfl takes0 (fun W pn xe tk _ =>
      (pss_cons (ps_expr (pcS gall_branches hr tk (pa_cons (pv 0) (pa_cons (pv 1) (pa_cons (pv 2) (pa_cons (pv 3) (pa_cons (pv 4) pa_nil)))))))
      (pss_one (ps_expr (show PE _ _ (tBM K "list" rAppend (tVar 5) (tCons (tC (.str "made")) tNil)) from pe_bm PySem.F.plainAttrs_list PySem.F.slot_list_append PySem.F.type_list_append mt_append (pv 5) (pa_cons pe_str pa_nil))))))
      (.cons ⟨rfl, by decide, .inl eBadReach.g⟩ (fun _ _ _ _ _ _ _ => (pss_one (ps_expr (show PE _ _ (tBM K "list" rAppend (tVar 5) (tCons (tC (.str "reach")) tNil)) from pe_bm PySem.F.plainAttrs_list PySem.F.slot_list_append PySem.F.type_list_append mt_append (pv 5) (pa_cons pe_str pa_nil))))) (.cons ⟨rfl, by decide, .inl eTooMany.g⟩ (fun _ _ _ _ _ _ _ => (pss_one (ps_expr (show PE _ _ (tBM K "list" rAppend (tVar 5) (tCons (tC (.str "many")) tNil)) from pe_bm PySem.F.plainAttrs_list PySem.F.slot_list_append PySem.F.type_list_append mt_append (pv 5) (pa_cons pe_str pa_nil))))) .nil)))
    (pss_one (ps_ret (pv 5)))))), ?_⟩
  refine ⟨Nat.zero_le _, fun p hp => ?_⟩
  have s1 := same_new hp (.lst [])
  have hd1 : Dq M K _ r re := hd.stay (Same.go s1)
  have two : ∀ {H2 : Hp} {ys : List V}, H2 p = some (.lst ys) → Same H H2 → Same H (upd H2 p (.lst (ys ++ [.str x]))) := fun e s => same_own s hp _
  have hd2 : Dq M K (upd (upd H p (.lst [])) p (.lst ([] ++ [.str x]))) r re := hd.stay (Same.go (two upd_same s1))
  rcases h with ⟨hn, rfl⟩ | ⟨T, rfl, hT, m1, m2, rfl⟩
  · refine ⟨_, rfl, _, rfl, _, rfl, _, rfl, M, D, o, u, _, _, _, r, re, rfl, rfl, rfl, rfl, hD, o1, o4, u1, u4, hd1, fun _ => ?_, fun T e hT => ?_⟩
    · refine ⟨true, hbb, fun _ a ha => ?_, fun z => nomatch z⟩
      refine ⟨_, rfl, .inl ⟨rfl, _, SqL.of upd_same⟩, p, _, _, rfl, rfl, upd_same, (by show 0 < sizeLine; decide), ?_⟩
      refine ⟨_, rfl, _, rfl, _, rfl, _, rfl, _, rfl, M, D, o, u, c, _, _, _, _, r, re, rfl, rfl, rfl, rfl, rfl, hD, o1, o4, u1, u4, hc, hd2, fun _ => ?_, fun T e hT => ?_⟩
      · refine ⟨true, hbb, fun _ a ha => ?_, fun z => nomatch z⟩
        refine ⟨_, rfl, .inl ⟨rfl, _, SqL.of upd_same⟩, p, _, _, rfl, rfl, upd_same, (by show 1 < sizeLine; decide), ?_⟩
        exact ⟨_, rfl, k p _ hp (two upd_same (two upd_same s1)) upd_same⟩
      · rw [e, num_in hT] at hn
        cases hn
    · rw [e, num_in hT] at hn
      cases hn
  · refine ⟨_, rfl, _, rfl, _, rfl, _, rfl, M, D, o, u, _, _, _, r, _, rfl, rfl, rfl, rfl, hD, o1, o4, u1, u4, hd1, fun z => ?_, fun T' e hT' => ?_⟩
    · rw [num_in hT] at z
      cases z
    cases e
    refine ⟨fun _ => ?_, fun z => absurd z (by omega)⟩
    refine ⟨false, hmb, (fun z => nomatch z), fun _ => ⟨true, hmm, fun _ a ha => ?_, fun z => nomatch z⟩⟩
    refine ⟨_, rfl, .inl ⟨rfl, _, SqL.of upd_same⟩, p, _, _, rfl, rfl, upd_same, (by show 0 < sizeLine; decide), ?_⟩
    refine ⟨_, rfl, _, rfl, _, rfl, _, rfl, _, rfl, M, D, o, u, c, _, _, _, _, r, _, rfl, rfl, rfl, rfl, rfl, hD, o1, o4, u1, u4, hc, hd2, fun z => ?_, fun T' e hT' => ?_⟩
    · rw [num_in hT] at z
      cases z
    cases e
    refine ⟨fun _ => ?_, fun z => absurd z (by omega)⟩
    refine ⟨false, hmb, (fun z => nomatch z), fun _ => ⟨true, hmm, fun _ a ha => ?_, fun z => nomatch z⟩⟩
    refine ⟨_, rfl, .inl ⟨rfl, _, SqL.of upd_same⟩, p, _, _, rfl, rfl, upd_same, (by show 1 < sizeLine; decide), ?_⟩
    exact ⟨_, rfl, k p _ hp (two upd_same (two upd_same s1)) upd_same⟩
end
section
variable {P : Program} {w : World} {K : PySem.W.Frag} {mg : Str → Option Value} {base : Heap}
/-! the sizes -/
theorem rws_all {D T o u c : Nat} {G : PyData → Prop} (g0 : G .none) (g : ∀ i, i < D → ∀ e ∈ brs D T u o (i + 1), G e) : ∀ n, n ≤ D → ∀ r ∈ rws D T o u c n, ∀ e ∈ r, G e
  | 0, _, r, h, e, he => by
    have : r = [] := by simpa [rws] using h
    rw [this] at he
    cases he
  | n + 1, hn, r, h, e, he => by
    rw [rws_succ] at h
    unfold chS at h
    rw [List.mem_flatMap] at h
    obtain ⟨q, hq, h⟩ := h
    rw [List.mem_map] at h
    obtain ⟨z, hz, rfl⟩ := h
    rcases List.mem_append.mp he with h1 | h1
    · exact rws_all g0 g n (by omega) q hq e h1
    · rw [List.mem_singleton.mp h1]
      by_cases k : n + 1 = c
      · rw [if_pos k] at hz
        rw [List.mem_singleton.mp hz]
        exact g0
      · rw [if_neg k] at hz
        exact g n (by omega) z hz
theorem sized_one {m h : Nat} {a : PyData} (s : Sized m h a) : Sized (m + 1) (h + 1) (.tuple [a]) := by
  have := sized_tup (m := m) (h := h) (ds := [a]) (fun d hd => by rw [List.mem_singleton.mp hd]; exact s)
  exact this.more (by simp) (Nat.le_refl _)
theorem brs_sized (D : Nat) : ∀ (T o u c : Nat), o ≤ 4 → u ≤ 4 → ∀ e ∈ brs D T o u c, Sized (vbk D T) (2 * T + 1) e
  | 0, o, u, c, ho, hu, e, he => by
    unfold brs at he
    rw [List.mem_map] at he
    obtain ⟨x, hx, rfl⟩ := he
    have := List.mem_range.mp hx
    exact sized_one (sized_int (Nat.lt_of_lt_of_le (show (x : Int).natAbs < 4 by omega) (by decide)))
  | T + 1, o, u, c, ho, hu, e, he => by
    rw [brs_rws, List.mem_flatMap] at he
    obtain ⟨x, hx, he⟩ := he
    rw [List.mem_map] at he
    obtain ⟨r, hr, rfl⟩ := he
    have := List.mem_range.mp hx
    have all := rws_all (G := Sized (vbk D T) (2 * T + 1)) (sized_non.more (Nat.zero_le _) (Nat.zero_le _)) (fun i _ e he => brs_sized D T u o (i + 1) hu ho e he) D (Nat.le_refl _) r hr
    have st := sized_tup all
    rw [rws_row D r hr] at st
    have s2 := sized_two (sized_int (i := (x : Int)) (Nat.lt_of_lt_of_le (show (x : Int).natAbs < 4 by omega) (by decide))) st
    exact s2.more (by show _ ≤ D * (vbk D T + 1) + 2; omega) (by omega)
theorem vbk_all {D T : Nat} (hD : D ≤ 4) (hT : T ≤ 4) : vbk D T ≤ 390000 := by
  have : ∀ D < 5, ∀ T < 5, vbk D T ≤ 390000 := by decide
  exact this D (by omega) T (by omega)
/-- the whole list -/
theorem list_sized {D T o u c : Nat} (hD2 : 1 ≤ D) (hD : D ≤ 4) (hT : T ≤ 4) (o1 : 1 ≤ o) (ho : o ≤ 4) (u1 : 1 ≤ u) (hu : u ≤ 4) (hc : c ≤ D) (few : cnt D T o u c ≤ 1100) :
    (PyData.list (brs D T o u c)).showable = true ∧ (PyData.list (brs D T o u c)).depth ≤ 60 ∧ (PyData.list (brs D T o u c)).shown.length ≤ sizeLine := by
  have s := sized_lst (brs_sized D T o u c ho hu)
  rw [brs_len] at s
  refine s.rep ?_ (by omega)
  by_cases h : c = 0
  · rw [h] at few ⊢
    rw [cnt_0] at few ⊢
    exact list_fits hD2 hD hT o1 ho u1 hu (.inl rfl) few
  · rw [cnt_c (by omega) hc] at few ⊢
    exact list_fits hD2 hD hT o1 ho u1 hu (.inr rfl) few
def spRightV (K : PySem.W.Frag) : Sp := fun vs H Q _ => ∃ (D T o u : Nat) (dd oo uu tt : Int), vs = [.int dd, .int oo, .int uu, .int tt] ∧ dd = D ∧ oo = o ∧ uu = u ∧ tt = T ∧ 1 ≤ D ∧ D ≤ 4 ∧ 1 ≤ o ∧ o ≤ 4 ∧ 1 ≤ u ∧ u ≤ 4 ∧ T ≤ 4 ∧ cnt D T o u 0 ≤ 1100 ∧ ∀ H', Same H H' → Q (.bl true) H'
theorem q_eq {a : Str} {Q : VK} {H : Hp} (h : Q (.bl true) H) : Q (.bl (decide (a = a))) H := by
  rw [decide_eq_true rfl]
  exact h
theorem ok_rightv {CB CM : Addr} {f : Addr} {fd : FuncData} (B : Blt mg) (g_law_branches : Has P w K mg base CX0 6 "_law_branches" ["colours", "own", "other", "reach", "colour"] (spBr K 5)) (gall_views : Has P w K mg base (L2.CX P w) 8 "all_views" ["D", "own", "other", "reach"] (spViews K CB CM))
    (F : Fun K "_law_views_right" "_law_views_right" s_law_views_right f fd) : FnG P w K mg base 9 f fd ["colours", "own", "other", "reach"] (spRightV K) := by
  have sc : FnScope ["colours", "own", "other", "reach", "due", "first", "second"] ["colours", "own", "other", "reach"] (defScope s_law_views_right) := ⟨rfl, rfl, rfl, by decide +kernel, rfl, by decide +kernel, by decide +kernel⟩
  refine FnG.by F sc (fun vs H Q E h => ?_) (fun cdv A outer s H vs Q E hg hr h => ?_)
  · obtain ⟨_, _, _, _, _, _, _, _, rfl, _⟩ := h
    rfl
  obtain ⟨D, T, o, u, dd, oo, uu, tt, rfl, rfl, rfl, rfl, rfl, hD1, hD, o1, o4, u1, u4, hT, few, k⟩ := h
  refine ⟨_, (pss_cons (ps_set (i := 4) sc.nd rfl (Or.inl rfl) (pc g_law_branches hr (pa_cons (pv 0) (pa_cons (pv 1) (pa_cons (pv 2) (pa_cons (pv 3) (pa_cons pe_int pa_nil)))))))
    (pss_cons (ps_set (i := 5) sc.nd rfl (Or.inl rfl) (pcX gall_views hr (pa_cons (pv 0) (pa_cons (pv 1) (pa_cons (pv 2) (pa_cons (pv 3) pa_nil))))))
    (pss_cons (ps_if (PW.pt (pw_or (pt_not (pt_val (pe_callB call_isi (by rfl) B.isinstance (by decide +kernel) (pa_cons (pv 5) (pa_cons (pe_bltn (v := V.ty "list") (u := Value.type "list") (by rfl) B.list (by decide +kernel) rfl) pa_nil))))) (pw_or1 (pt_cmpR op_nes (pe_callB (call_repV hg hr.units) (by rfl) B.repr (by decide +kernel) (pa_cons (pv 5) pa_nil)) (pe_callB (call_repV hg hr.units) (by rfl) B.repr (by decide +kernel) (pa_cons (pv 4) pa_nil)) (nomark _)))))
      (pss_one (ps_ret pe_bl))
      pss_nil)
    (pss_cons (ps_expr (pe_bm PySem.F.plainAttrs_list PySem.F.slot_list_append PySem.F.type_list_append mt_append (pv 5) (pa_cons (pe_ix ix_list (pv 5) pe_int (fun _ _ => rfl)) pa_nil)))
    (pss_cons (ps_asg pe_non (pg_sub (pv 5) pe_int set_list))
    (pss_cons (ps_set (i := 6) sc.nd rfl (Or.inl rfl) (pcX gall_views hr (pa_cons (pv 0) (pa_cons (pv 1) (pa_cons (pv 2) (pa_cons (pv 3) pa_nil))))))
    (pss_one (ps_ret (pe_and (pe_callB call_isi (by rfl) B.isinstance (by decide +kernel) (pa_cons (pv 6) (pa_cons (pe_bltn (v := V.ty "list") (u := Value.type "list") (by rfl) B.list (by decide +kernel) rfl) pa_nil))) (pe_one (pe_cmpR op_eqs (pe_callB (call_repV hg hr.units) (by rfl) B.repr (by decide +kernel) (pa_cons (pv 6) pa_nil)) (pe_callB (call_repV hg hr.units) (by rfl) B.repr (by decide +kernel) (pa_cons (pv 4) pa_nil)) (nomark _)))))))))))), ?_⟩
  obtain ⟨z1, z2, z3⟩ := list_sized hD1 hD hT o1 o4 u1 u4 (Nat.zero_le _) few
  have few2 : cnt D T o u 0 ≤ 200000 := Nat.le_trans few (by decide)
  have noB : ∀ {A : Prop}, isNum (.int (T : Int)) 0 4 = false → A := fun z => by
    rw [num_in hT] at z
    cases z
  refine ⟨_, rfl, _, rfl, _, rfl, _, rfl, D, T, o, u, 0, _, _, _, _, _, rfl, rfl, rfl, rfl, rfl, rfl, hD, o1, o4, u1, u4, few2, by omega, fun q0 H1 xs0 hq0 s1 e0 d0 => ?_⟩
  refine ⟨_, rfl, _, rfl, _, rfl, _, rfl, (fun _ => False), D, o, u, _, _, _, _, .int (T : Int), rfl, rfl, rfl, rfl, hD, o1, o4, u1, u4, .data (.int _), noB, fun T' e' _ => ?_⟩
  cases e'
  refine ⟨fun z => absurd z (by omega), fun _ p1 H2 xs1 hp1 s2 e1 d1 => ?_⟩
  have n01 : q0 ≠ p1 := ne_of_none e0 hp1
  have e02 := s2 _ _ e0
  have d02 := d0.stay s2.tups
  refine ⟨_, rfl, _, _, _, _, true, rfl, ClsV.ty _, tyx_lst (SqL.of e1), kit_ty (by decide +kernel), _, rfl, ?_⟩
  refine iteF ?_
  refine ⟨_, rfl, (fun _ => False), _, _, rfl, .data (.lst id (SqL.of e1) d1.dv), z1, z2, z3, _, rfl, (fun _ => False), _, _, rfl, .data (.lst id (SqL.of e02) d02.dv), z1, z2, z3, _, _, rfl, rfl, _, rfl, ?_⟩
  refine iteNS rfl ?_
  have pos : 1 ≤ xs1.length := by
    rw [d1.len, brs_len]
    exact cnt_pos D T o u 0 o1 u1
  obtain ⟨y, ys, rfl⟩ : ∃ y ys, xs1 = y :: ys := by
    cases xs1 with
    | nil => exact absurd pos (by decide)
    | cons y ys => exact ⟨y, ys, rfl⟩
  have lsz : (y :: ys).length < sizeLine := lt_line (by rw [d1.len, brs_len]; exact few2)
  refine ⟨_, rfl, .inl ⟨rfl, _, SqL.of e1⟩, _, rfl, p1, _, _, y, rfl, rfl, SqL.of e1, at_of (j := 0) rfl rfl, p1, _, _, rfl, rfl, e1, lsz, ?_⟩
  refine ⟨_, rfl, p1, _, _, 0, rfl, rfl, upd_same, ix_of (by decide) (by simp; omega), ?_⟩
  refine ⟨_, rfl, _, rfl, _, rfl, _, rfl, (fun _ => False), D, o, u, _, _, _, _, .int (T : Int), rfl, rfl, rfl, rfl, hD, o1, o4, u1, u4, .data (.int _), noB, fun T' e' _ => ?_⟩
  cases e'
  refine ⟨fun z => absurd z (by omega), fun _ p2 H3 xs2 hp2 s3 e2 d2 => ?_⟩
  have t1 := tups_lst (ys := (y :: ys) ++ [y]) e1
  have t2 : TupsStay _ _ := tups_lst (ys := ((y :: ys) ++ [y]).set 0 .non) (upd_same (H := H2) (a := p1) (o := .lst ((y :: ys) ++ [y])))
  have e03 := s3 q0 _ (by rw [upd_ne n01, upd_ne n01]; exact e02)
  have d03 := d02.stay (t1.trans (t2.trans s3.tups))
  refine ⟨_, rfl, _, _, _, _, true, rfl, ClsV.ty _, tyx_lst (SqL.of e2), kit_ty (by decide +kernel), ?_⟩
  refine ⟨_, rfl, ?_⟩
  refine iteT ?_
  refine ⟨_, rfl, (fun _ => False), _, _, rfl, .data (.lst id (SqL.of e2) d2.dv), z1, z2, z3, _, rfl, (fun _ => False), _, _, rfl, .data (.lst id (SqL.of e03) d03.dv), z1, z2, z3, _, _, rfl, rfl, ?_⟩
  have fr : H p1 = none := s1.free hp1
  exact q_eq (k _ (Same.trans (same_own (same_own (s1.trans s2) fr _) fr _) s3))
def spRightB (K : PySem.W.Frag) : Sp := fun vs H Q _ => ∃ (D T o u c : Nat) (dd oo uu tt cc : Int), vs = [.int dd, .int oo, .int uu, .int tt, .int cc] ∧ dd = D ∧ oo = o ∧ uu = u ∧ tt = T ∧ cc = c ∧ 1 ≤ D ∧ D ≤ 4 ∧ 1 ≤ o ∧ o ≤ 4 ∧ 1 ≤ u ∧ u ≤ 4 ∧ T ≤ 4 ∧ c ≤ D ∧ cnt D T o u c ≤ 1100 ∧ ∀ H', Same H H' → Q (.bl true) H'
theorem ok_rightb {CB CM : Addr} {f : Addr} {fd : FuncData} (B : Blt mg) (g_law_branches : Has P w K mg base CX0 6 "_law_branches" ["colours", "own", "other", "reach", "colour"] (spBr K 5)) (gall_branches : Has P w K mg base (L2.CX P w) 8 "all_branches" ["D", "own", "other", "reach", "colour"] (spBranches K CB CM))
    (F : Fun K "_law_branches_right" "_law_branches_right" s_law_branches_right f fd) : FnG P w K mg base 9 f fd ["colours", "own", "other", "reach", "colour"] (spRightB K) := by
  have sc : FnScope ["colours", "own", "other", "reach", "colour", "due", "first", "second"] ["colours", "own", "other", "reach", "colour"] (defScope s_law_branches_right) := ⟨rfl, rfl, rfl, by decide +kernel, rfl, by decide +kernel, by decide +kernel⟩
  refine FnG.by F sc (fun vs H Q E h => ?_) (fun cdv A outer s H vs Q E hg hr h => ?_)
  · obtain ⟨_, _, _, _, _, _, _, _, _, _, rfl, _⟩ := h
    rfl
  obtain ⟨D, T, o, u, c, dd, oo, uu, tt, cc, rfl, rfl, rfl, rfl, rfl, rfl, hD1, hD, o1, o4, u1, u4, hT, hc, few, k⟩ := h
  refine ⟨_, (pss_cons (ps_set (i := 5) sc.nd rfl (Or.inl rfl) (pc g_law_branches hr (pa_cons (pv 0) (pa_cons (pv 1) (pa_cons (pv 2) (pa_cons (pv 3) (pa_cons (pv 4) pa_nil)))))))
    (pss_cons (ps_set (i := 6) sc.nd rfl (Or.inl rfl) (pcX gall_branches hr (pa_cons (pv 0) (pa_cons (pv 1) (pa_cons (pv 2) (pa_cons (pv 3) (pa_cons (pv 4) pa_nil)))))))
    (pss_cons (ps_if (PW.pt (pw_or (pt_not (pt_val (pe_callB call_isi (by rfl) B.isinstance (by decide +kernel) (pa_cons (pv 6) (pa_cons (pe_bltn (v := V.ty "list") (u := Value.type "list") (by rfl) B.list (by decide +kernel) rfl) pa_nil))))) (pw_or1 (pt_cmpR op_nes (pe_callB (call_repV hg hr.units) (by rfl) B.repr (by decide +kernel) (pa_cons (pv 6) pa_nil)) (pe_callB (call_repV hg hr.units) (by rfl) B.repr (by decide +kernel) (pa_cons (pv 5) pa_nil)) (nomark _)))))
      (pss_one (ps_ret pe_bl))
      pss_nil)
    (pss_cons (ps_expr (pe_bm0 PySem.F.plainAttrs_list PySem.F.slot_list_pop PySem.F.type_list_pop mt_pop (pv 6)))
    (pss_cons (ps_set (i := 7) sc.nd rfl (Or.inl rfl) (pcX gall_branches hr (pa_cons (pv 0) (pa_cons (pv 1) (pa_cons (pv 2) (pa_cons (pv 3) (pa_cons (pv 4) pa_nil)))))))
    (pss_one (ps_ret (pe_and (pe_callB call_isi (by rfl) B.isinstance (by decide +kernel) (pa_cons (pv 7) (pa_cons (pe_bltn (v := V.ty "list") (u := Value.type "list") (by rfl) B.list (by decide +kernel) rfl) pa_nil))) (pe_one (pe_cmpR op_eqs (pe_callB (call_repV hg hr.units) (by rfl) B.repr (by decide +kernel) (pa_cons (pv 7) pa_nil)) (pe_callB (call_repV hg hr.units) (by rfl) B.repr (by decide +kernel) (pa_cons (pv 5) pa_nil)) (nomark _))))))))))), ?_⟩
  obtain ⟨z1, z2, z3⟩ := list_sized hD1 hD hT o1 o4 u1 u4 hc few
  have few2 : cnt D T o u c ≤ 200000 := Nat.le_trans few (by decide)
  have noB : ∀ {A : Prop}, isNum (.int (T : Int)) 0 4 = false → A := fun z => by
    rw [num_in hT] at z
    cases z
  refine ⟨_, rfl, _, rfl, _, rfl, _, rfl, _, rfl, D, T, o, u, c, _, _, _, _, _, rfl, rfl, rfl, rfl, rfl, rfl, hD, o1, o4, u1, u4, few2, by omega, fun q0 H1 xs0 hq0 s1 e0 d0 => ?_⟩
  refine ⟨_, rfl, _, rfl, _, rfl, _, rfl, _, rfl, (fun _ => False), D, o, u, c, _, _, _, _, _, .int (T : Int), rfl, rfl, rfl, rfl, rfl, hD, o1, o4, u1, u4, hc, .data (.int _), noB, fun T' e' _ => ?_⟩
  cases e'
  refine ⟨fun z => absurd z (by omega), fun _ p1 H2 xs1 hp1 s2 e1 d1 => ?_⟩
  have n01 : q0 ≠ p1 := ne_of_none e0 hp1
  have e02 := s2 _ _ e0
  have d02 := d0.stay s2.tups
  refine ⟨_, rfl, _, _, _, _, true, rfl, ClsV.ty _, tyx_lst (SqL.of e1), kit_ty (by decide +kernel), _, rfl, ?_⟩
  refine iteF ?_
  refine ⟨_, rfl, (fun _ => False), _, _, rfl, .data (.lst id (SqL.of e1) d1.dv), z1, z2, z3, _, rfl, (fun _ => False), _, _, rfl, .data (.lst id (SqL.of e02) d02.dv), z1, z2, z3, _, _, rfl, rfl, _, rfl, ?_⟩
  refine iteNS rfl ?_
  have pos : 1 ≤ xs1.length := by
    rw [d1.len, brs_len]
    exact cnt_pos D T o u c o1 u1
  have last : xs1[xs1.length - 1]? = some (xs1[xs1.length - 1]) := List.getElem?_eq_getElem (by omega)
  refine ⟨_, rfl, .inl ⟨rfl, _, SqL.of e1⟩, p1, _, _, rfl, rfl, e1, last, ?_⟩
  refine ⟨_, rfl, _, rfl, _, rfl, _, rfl, _, rfl, (fun _ => False), D, o, u, c, _, _, _, _, _, .int (T : Int), rfl, rfl, rfl, rfl, rfl, hD, o1, o4, u1, u4, hc, .data (.int _), noB, fun T' e' _ => ?_⟩
  cases e'
  refine ⟨fun z => absurd z (by omega), fun _ p2 H3 xs2 hp2 s3 e2 d2 => ?_⟩
  have t1 := tups_lst (ys := xs1.dropLast) e1
  have e03 := s3 q0 _ (by rw [upd_ne n01]; exact e02)
  have d03 := d02.stay (t1.trans s3.tups)
  refine ⟨_, rfl, _, _, _, _, true, rfl, ClsV.ty _, tyx_lst (SqL.of e2), kit_ty (by decide +kernel), ?_⟩
  refine ⟨_, rfl, ?_⟩
  refine iteT ?_
  refine ⟨_, rfl, (fun _ => False), _, _, rfl, .data (.lst id (SqL.of e2) d2.dv), z1, z2, z3, _, rfl, (fun _ => False), _, _, rfl, .data (.lst id (SqL.of e03) d03.dv), z1, z2, z3, _, _, rfl, rfl, ?_⟩
  have fr : H p1 = none := s1.free hp1
  exact q_eq (k _ (Same.trans (same_own (s1.trans s2) fr _) s3))
/-- the two long lists -/
def spLarge (K : PySem.W.Frag) : Sp := fun vs H Q _ => ∃ (s : Int), vs = [.int s] ∧ (s = 0 ∨ s = 1) ∧ ∀ H', Same H H' → Q (.bl true) H'
theorem end_at {D T o u c : Nat} {H : Hp} {xs : List V} (o1 : 1 ≤ o) (u1 : 1 ≤ u) (h : DtAll K H xs (brs D T o u c)) : ∃ y z, atI xs 0 = some y ∧ atI xs (-1) = some z ∧ Dt K H y (endD D 1 T o u c) ∧ Dt K H z (endD D 0 T o u c) := by
  obtain ⟨e1, e2⟩ := two_ends D T o u c o1 u1
  have pos : 1 ≤ xs.length := by
    rw [h.len, brs_len]
    exact cnt_pos D T o u c o1 u1
  rw [List.head?_eq_getElem?] at e1
  rw [List.getLast?_eq_getElem?] at e2
  obtain ⟨y, hy, dy⟩ := h.at e1
  obtain ⟨z, hz, dz⟩ := h.at e2
  refine ⟨y, z, ?_, ?_, dy, dz⟩
  · exact at_of (j := 0) rfl hy
  · unfold atI ixN
    rw [if_neg (by decide), if_pos (by omega)]
    rw [← h.len] at hz
    show xs[(-1 + (xs.length : Int)).toNat]? = some z
    rw [show (-1 + (xs.length : Int)).toNat = xs.length - 1 by omega]
    exact hz
set_option maxHeartbeats 1000000 in
theorem ok_large {CB CM : Addr} {f : Addr} {fd : FuncData} (B : Blt mg) (g_law_end : Has P w K mg base CX0 6 "_law_end" ["colours", "own", "other", "reach", "colour", "least"] (spEnd K 5)) (gall_views : Has P w K mg base (L2.CX P w) 8 "all_views" ["D", "own", "other", "reach"] (spViews K CB CM))
    (F : Fun K "_law_large" "_law_large" s_law_large f fd) : FnG P w K mg base 9 f fd ["shape"] (spLarge K) := by
  have sc : FnScope ["shape", "colours", "own", "other", "reach", "many", "rows", "first", "last"] ["shape"] (defScope s_law_large) := ⟨rfl, rfl, rfl, by decide +kernel, rfl, by decide +kernel, by decide +kernel⟩
  refine FnG.by F sc (fun vs H Q E h => ?_) (fun cdv A outer s H vs Q E hg hr h => ?_)
  · obtain ⟨_, rfl, _⟩ := h
    rfl
  obtain ⟨s, rfl, hs, k⟩ := h
  refine ⟨_, (pss_cons (ps_set (i := 1) sc.nd rfl (Or.inl rfl) (pe_ix ix_list (pe_lst (pa_cons pe_int (pa_cons pe_int pa_nil))) (pv 0) (fun _ _ => rfl)))
    (pss_cons (ps_set (i := 2) sc.nd rfl (Or.inl rfl) (pe_ix ix_list (pe_lst (pa_cons pe_int (pa_cons pe_int pa_nil))) (pv 0) (fun _ _ => rfl)))
    (pss_cons (ps_set (i := 3) sc.nd rfl (Or.inl rfl) (pe_ix ix_list (pe_lst (pa_cons pe_int (pa_cons pe_int pa_nil))) (pv 0) (fun _ _ => rfl)))
    (pss_cons (ps_set (i := 4) sc.nd rfl (Or.inl rfl) (pe_ix ix_list (pe_lst (pa_cons pe_int (pa_cons pe_int pa_nil))) (pv 0) (fun _ _ => rfl)))
    (pss_cons (ps_set (i := 5) sc.nd rfl (Or.inl rfl) (pe_ix ix_list (pe_lst (pa_cons pe_int (pa_cons pe_int pa_nil))) (pv 0) (fun _ _ => rfl)))
    (pss_cons (ps_set (i := 6) sc.nd rfl (Or.inl rfl) (pcX gall_views hr (pa_cons (pv 1) (pa_cons (pv 2) (pa_cons (pv 3) (pa_cons (pv 4) pa_nil))))))
    (pss_cons (ps_if (PW.pt (pw_or (pt_not (pt_val (pe_callB call_isi (by rfl) B.isinstance (by decide +kernel) (pa_cons (pv 6) (pa_cons (pe_bltn (v := V.ty "list") (u := Value.type "list") (by rfl) B.list (by decide +kernel) rfl) pa_nil))))) (pw_or1 (pt_cmpR op_nei (pe_callB call_len_seq (by rfl) B.len (by decide +kernel) (pa_cons (pv 6) pa_nil)) (pv 5) (nomark _)))))
      (pss_one (ps_ret pe_bl))
      pss_nil)
    (pss_cons (ps_set (i := 7) sc.nd rfl (Or.inl rfl) (pc g_law_end hr (pa_cons (pv 1) (pa_cons (pv 2) (pa_cons (pv 3) (pa_cons (pv 4) (pa_cons pe_int (pa_cons pe_int pa_nil))))))))
    (pss_cons (ps_set (i := 8) sc.nd rfl (Or.inl rfl) (pc g_law_end hr (pa_cons (pv 1) (pa_cons (pv 2) (pa_cons (pv 3) (pa_cons (pv 4) (pa_cons pe_int (pa_cons pe_int pa_nil))))))))
    (pss_one (ps_ret (pe_and (pe_cmpR op_eqs (pe_callB (call_repV hg hr.units) (by rfl) B.repr (by decide +kernel) (pa_cons (pe_ix ix_list (pv 6) pe_int (fun _ _ => rfl)) pa_nil)) (pe_callB (call_repV hg hr.units) (by rfl) B.repr (by decide +kernel) (pa_cons (pv 7) pa_nil)) (nomark _)) (pe_one (pe_cmpR op_eqs (pe_callB (call_repV hg hr.units) (by rfl) B.repr (by decide +kernel) (pa_cons (pe_ix ix_list (pv 6) (pe_un un_neg pe_int) (fun _ _ => rfl)) pa_nil)) (pe_callB (call_repV hg hr.units) (by rfl) B.repr (by decide +kernel) (pa_cons (pv 8) pa_nil)) (nomark _))))))))))))))), ?_⟩
  rcases hs with rfl | rfl
  · obtain ⟨D, eD⟩ : ∃ D : Nat, D = 2 := ⟨_, rfl⟩
    obtain ⟨o, eo⟩ : ∃ D : Nat, D = 4 := ⟨_, rfl⟩
    obtain ⟨u, eu⟩ : ∃ D : Nat, D = 3 := ⟨_, rfl⟩
    obtain ⟨T, eT'⟩ : ∃ D : Nat, D = 4 := ⟨_, rfl⟩
    have eT : (4 : Int) = (T : Int) := by omega
    have eN : cnt D T o u 0 = 82944 := by
      rw [eD, eo, eu, eT', cnt_0]
      decide
    refine ⟨(by show 2 ≤ sizeLine; decide), fun l1 hl1 => ?_⟩
    have s1 := same_new hl1 (.lst [.int 2, .int 4])
    refine ⟨_, rfl, l1, _, _, _, rfl, rfl, SqL.of upd_same, at_of (j := 0) rfl rfl, ?_⟩
    refine ⟨(by show 2 ≤ sizeLine; decide), fun l2 hl2 => ?_⟩
    have s2 := s1.trans (same_new hl2 (.lst [.int 4, .int 2]))
    refine ⟨_, rfl, l2, _, _, _, rfl, rfl, SqL.of upd_same, at_of (j := 0) rfl rfl, ?_⟩
    refine ⟨(by show 2 ≤ sizeLine; decide), fun l3 hl3 => ?_⟩
    have s3 := s2.trans (same_new hl3 (.lst [.int 3, .int 2]))
    refine ⟨_, rfl, l3, _, _, _, rfl, rfl, SqL.of upd_same, at_of (j := 0) rfl rfl, ?_⟩
    refine ⟨(by show 2 ≤ sizeLine; decide), fun l4 hl4 => ?_⟩
    have s4 := s3.trans (same_new hl4 (.lst [.int 4, .int 2]))
    refine ⟨_, rfl, l4, _, _, _, rfl, rfl, SqL.of upd_same, at_of (j := 0) rfl rfl, ?_⟩
    refine ⟨(by show 2 ≤ sizeLine; decide), fun l5 hl5 => ?_⟩
    have s5 := s4.trans (same_new hl5 (.lst [.int 82944, .int 131072]))
    refine ⟨_, rfl, l5, _, _, _, rfl, rfl, SqL.of upd_same, at_of (j := 0) rfl rfl, ?_⟩
    have o1 : 1 ≤ o := by omega
    have o4 : o ≤ 4 := by omega
    have u1 : 1 ≤ u := by omega
    have u4 : u ≤ 4 := by omega
    have hD : D ≤ 4 := by omega
    have hT : T ≤ 4 := by omega
    have noB : ∀ {A : Prop}, isNum (.int (T : Int)) 0 4 = false → A := fun z => by
      rw [num_in hT] at z
      cases z
    refine ⟨_, rfl, _, rfl, _, rfl, _, rfl, (fun _ => False), D, o, u, _, _, _, _, .int (T : Int), rfl, by omega, by omega, by omega, hD, o1, o4, u1, u4, (by rw [eT]; exact .data (.int _)), noB, fun T' e' _ => ?_⟩
    cases e'
    refine ⟨fun z => absurd z (by omega), fun _ p H2 xs hp s6 e d => ?_⟩
    refine ⟨_, rfl, _, _, _, _, true, rfl, ClsV.ty _, tyx_lst (SqL.of e), kit_ty (by decide +kernel), _, rfl, ?_⟩
    refine iteF ?_
    refine ⟨_, rfl, p, _, rfl, .inl (SqL.of e), _, rfl, _, _, rfl, rfl, _, rfl, ?_⟩
    have el : ((xs.length : Nat) : Int) = 82944 := by rw [d.len, brs_len]; omega
    rw [decide_eq_true el]
    refine iteF ?_
    refine ⟨_, rfl, _, rfl, _, rfl, _, rfl, D, T, o, u, 0, _, _, _, _, _, 1, rfl, by omega, by omega, by omega, by omega, rfl, hD, by decide, by decide, by omega, fun q1 H3 s7 a1 => ?_⟩
    refine ⟨_, rfl, _, rfl, _, rfl, _, rfl, D, T, o, u, 0, _, _, _, _, _, 0, rfl, by omega, by omega, by omega, by omega, rfl, hD, by decide, by decide, by omega, fun q2 H4 s8 a2 => ?_⟩
    have d4 := d.stay (s7.trans s8).tups
    have e4 := (s7.trans s8) _ _ e
    obtain ⟨y, z, hy, hz, dy, dz⟩ := end_at o1 u1 d4
    obtain ⟨n1, n2⟩ := two_ends D T o u 0 o1 u1
    obtain ⟨y1, y2, y3⟩ := (brs_sized D T o u 0 o4 u4 _ (List.mem_of_head? n1)).rep (vbk_all hD hT) (by omega)
    obtain ⟨w1, w2, w3⟩ := (brs_sized D T o u 0 o4 u4 _ (List.mem_of_getLast? n2)).rep (vbk_all hD hT) (by omega)
    refine ⟨_, rfl, p, _, _, y, rfl, rfl, SqL.of e4, hy, (fun _ => False), _, _, rfl, .data dy.dv, y1, y2, y3, _, rfl, (fun _ => False), _, _, rfl, .data (a1.stay s8.tups).dv, y1, y2, y3, _, _, rfl, rfl, ?_⟩
    refine ⟨_, rfl, ?_⟩
    rw [decide_eq_true rfl]
    refine iteT ?_
    refine ⟨_, rfl, _, rfl, p, _, _, z, rfl, rfl, SqL.of e4, hz, (fun _ => False), _, _, rfl, .data dz.dv, w1, w2, w3, _, rfl, (fun _ => False), _, _, rfl, .data a2.dv, w1, w2, w3, _, _, rfl, rfl, ?_⟩
    exact q_eq (k _ (((s5.trans s6).trans s7).trans s8))
  · obtain ⟨D, eD⟩ : ∃ D : Nat, D = 4 := ⟨_, rfl⟩
    obtain ⟨o, eo⟩ : ∃ D : Nat, D = 2 := ⟨_, rfl⟩
    obtain ⟨u, eu⟩ : ∃ D : Nat, D = 2 := ⟨_, rfl⟩
    obtain ⟨T, eT'⟩ : ∃ D : Nat, D = 2 := ⟨_, rfl⟩
    have eT : (2 : Int) = (T : Int) := by omega
    have eN : cnt D T o u 0 = 131072 := by
      rw [eD, eo, eu, eT', cnt_0]
      decide
    refine ⟨(by show 2 ≤ sizeLine; decide), fun l1 hl1 => ?_⟩
    have s1 := same_new hl1 (.lst [.int 2, .int 4])
    refine ⟨_, rfl, l1, _, _, _, rfl, rfl, SqL.of upd_same, at_of (j := 1) rfl rfl, ?_⟩
    refine ⟨(by show 2 ≤ sizeLine; decide), fun l2 hl2 => ?_⟩
    have s2 := s1.trans (same_new hl2 (.lst [.int 4, .int 2]))
    refine ⟨_, rfl, l2, _, _, _, rfl, rfl, SqL.of upd_same, at_of (j := 1) rfl rfl, ?_⟩
    refine ⟨(by show 2 ≤ sizeLine; decide), fun l3 hl3 => ?_⟩
    have s3 := s2.trans (same_new hl3 (.lst [.int 3, .int 2]))
    refine ⟨_, rfl, l3, _, _, _, rfl, rfl, SqL.of upd_same, at_of (j := 1) rfl rfl, ?_⟩
    refine ⟨(by show 2 ≤ sizeLine; decide), fun l4 hl4 => ?_⟩
    have s4 := s3.trans (same_new hl4 (.lst [.int 4, .int 2]))
    refine ⟨_, rfl, l4, _, _, _, rfl, rfl, SqL.of upd_same, at_of (j := 1) rfl rfl, ?_⟩
    refine ⟨(by show 2 ≤ sizeLine; decide), fun l5 hl5 => ?_⟩
    have s5 := s4.trans (same_new hl5 (.lst [.int 82944, .int 131072]))
    refine ⟨_, rfl, l5, _, _, _, rfl, rfl, SqL.of upd_same, at_of (j := 1) rfl rfl, ?_⟩
    have o1 : 1 ≤ o := by omega
    have o4 : o ≤ 4 := by omega
    have u1 : 1 ≤ u := by omega
    have u4 : u ≤ 4 := by omega
    have hD : D ≤ 4 := by omega
    have hT : T ≤ 4 := by omega
    have noB : ∀ {A : Prop}, isNum (.int (T : Int)) 0 4 = false → A := fun z => by
      rw [num_in hT] at z
      cases z
    refine ⟨_, rfl, _, rfl, _, rfl, _, rfl, (fun _ => False), D, o, u, _, _, _, _, .int (T : Int), rfl, by omega, by omega, by omega, hD, o1, o4, u1, u4, (by rw [eT]; exact .data (.int _)), noB, fun T' e' _ => ?_⟩
    cases e'
    refine ⟨fun z => absurd z (by omega), fun _ p H2 xs hp s6 e d => ?_⟩
    refine ⟨_, rfl, _, _, _, _, true, rfl, ClsV.ty _, tyx_lst (SqL.of e), kit_ty (by decide +kernel), _, rfl, ?_⟩
    refine iteF ?_
    refine ⟨_, rfl, p, _, rfl, .inl (SqL.of e), _, rfl, _, _, rfl, rfl, _, rfl, ?_⟩
    have el : ((xs.length : Nat) : Int) = 131072 := by rw [d.len, brs_len]; omega
    rw [decide_eq_true el]
    refine iteF ?_
    refine ⟨_, rfl, _, rfl, _, rfl, _, rfl, D, T, o, u, 0, _, _, _, _, _, 1, rfl, by omega, by omega, by omega, by omega, rfl, hD, by decide, by decide, by omega, fun q1 H3 s7 a1 => ?_⟩
    refine ⟨_, rfl, _, rfl, _, rfl, _, rfl, D, T, o, u, 0, _, _, _, _, _, 0, rfl, by omega, by omega, by omega, by omega, rfl, hD, by decide, by decide, by omega, fun q2 H4 s8 a2 => ?_⟩
    have d4 := d.stay (s7.trans s8).tups
    have e4 := (s7.trans s8) _ _ e
    obtain ⟨y, z, hy, hz, dy, dz⟩ := end_at o1 u1 d4
    obtain ⟨n1, n2⟩ := two_ends D T o u 0 o1 u1
    obtain ⟨y1, y2, y3⟩ := (brs_sized D T o u 0 o4 u4 _ (List.mem_of_head? n1)).rep (vbk_all hD hT) (by omega)
    obtain ⟨w1, w2, w3⟩ := (brs_sized D T o u 0 o4 u4 _ (List.mem_of_getLast? n2)).rep (vbk_all hD hT) (by omega)
    refine ⟨_, rfl, p, _, _, y, rfl, rfl, SqL.of e4, hy, (fun _ => False), _, _, rfl, .data dy.dv, y1, y2, y3, _, rfl, (fun _ => False), _, _, rfl, .data (a1.stay s8.tups).dv, y1, y2, y3, _, _, rfl, rfl, ?_⟩
    refine ⟨_, rfl, ?_⟩
    rw [decide_eq_true rfl]
    refine iteT ?_
    refine ⟨_, rfl, _, rfl, p, _, _, z, rfl, rfl, SqL.of e4, hz, (fun _ => False), _, _, rfl, .data dz.dv, w1, w2, w3, _, rfl, (fun _ => False), _, _, rfl, .data a2.dv, w1, w2, w3, _, _, rfl, rfl, ?_⟩
    exact q_eq (k _ (((s5.trans s6).trans s7).trans s8))
end
section
variable {P : Program} {w : World} {K : PySem.W.Frag} {mg : Str → Option Value} {base : Heap}
def spOne (K : PySem.W.Frag) : Sp := fun vs H Q _ => ∃ (h d : Addr) (ds : List Int) (n : Nat), vs = [.ref h] ∧ Hand H h d ds n ∧ ∀ H' n', Go (· = h) H H' → Hand H' h d ds n' → Q (.bl true) H'
theorem two_same (x : Str) : (!PyData.eqv (.list [.str x, .str x]) (.list [.str x, .str x])) = false := by
  simp [PyData.eqv, PyData.eqvAll]
theorem two_shaped (x : Str) (h : PyData.strOk x = true) : SeqAt.shaped (.list [.str x, .str x]) = true := by
  simp [SeqAt.shaped, PyData.canLay0, PyData.canLayAll0, PyData.depth, PyData.depthAll, h]
theorem ok_many_ : PyData.strOk "many" = true := by decide +kernel
theorem ok_reach_ : PyData.strOk "reach" = true := by decide +kernel
theorem two_dp {H : Hp} {p : Addr} {x : Str} (h : H p = some (.lst [.str x, .str x])) : Dp K H (.ref p) (.list [.str x, .str x]) := .lst (SqL.of h) (.cons (.str x) (.cons (.str x) .nil))
set_option maxHeartbeats 4000000 in
theorem ok_one {CB CM : Addr} {f : Addr} {fd : FuncData} (B : Blt mg) (eTooMany : Err K mg "TooMany" CM) (hmm : PySem.W.exmOne K (.ref CM) (.ref CM) = some true) (g_law_take : Has P w K mg base CX0 1 "_law_take" ["hand", "many"] (spTake K))
    (g_law_count : Has P w K mg base CX0 6 "_law_count" ["colours", "own", "other", "reach", "ways"] (spLCount K 5)) (g_law_refusal : Has P w K mg base CX0 9 "_law_refusal" ["colours", "own", "other", "reach", "colour"] (spRefusal K))
    (g_law_views_right : HasG P w K mg base 9 "_law_views_right" ["colours", "own", "other", "reach"] (spRightV K)) (g_law_branches_right : HasG P w K mg base 9 "_law_branches_right" ["colours", "own", "other", "reach", "colour"] (spRightB K))
    (gall_views : Has P w K mg base (L2.CX P w) 8 "all_views" ["D", "own", "other", "reach"] (spViews K CB CM))
    (F : Fun K "_law_one" "_law_one" s_law_one f fd) : FnG P w K mg base 10 f fd ["hand"] (spOne K) := by
  have sc : FnScope ["hand", "colours", "own", "other", "reach", "colour", "views", "branches", "wrong"] ["hand"] (defScope s_law_one) := ⟨rfl, rfl, rfl, by decide +kernel, rfl, by decide +kernel, by decide +kernel⟩
  refine FnG.by F sc (fun vs H Q E h => ?_) (fun cdv A outer s H vs Q E hg hr h => ?_)
  · obtain ⟨_, _, _, _, rfl, _⟩ := h
    rfl
  obtain ⟨h, d, ds, n0, rfl, hh, k⟩ := h
  refine ⟨_, (pss_cons (ps_set (i := 1) sc.nd rfl (Or.inl rfl) (pe_op op_add pe_int (pc g_law_take hr (pa_cons (pv 0) (pa_cons pe_int pa_nil)))))
    (pss_cons (ps_set (i := 2) sc.nd rfl (Or.inl rfl) (pe_op op_add pe_int (pc g_law_take hr (pa_cons (pv 0) (pa_cons pe_int pa_nil)))))
    (pss_cons (ps_set (i := 3) sc.nd rfl (Or.inl rfl) (pe_op op_add pe_int (pc g_law_take hr (pa_cons (pv 0) (pa_cons pe_int pa_nil)))))
    (pss_cons (ps_set (i := 4) sc.nd rfl (Or.inl rfl) (pc g_law_take hr (pa_cons (pv 0) (pa_cons pe_int pa_nil))))
    (pss_cons (ps_if (pt_cmpR op_eqi (pc g_law_take hr (pa_cons (pv 0) (pa_cons pe_int pa_nil))) pe_int (nomark _))
      (pss_cons (ps_set (i := 1) sc.nd rfl (Or.inl rfl) pe_int)
      (pss_cons (ps_set (i := 2) sc.nd rfl (Or.inl rfl) (pe_op op_add pe_int (pe_op op_mod (pe_callTy call_int1 (by rfl) B.int (by decide +kernel) (pa_cons (pv 2) pa_nil)) pe_int)))
      (pss_one (ps_set (i := 3) sc.nd rfl (Or.inl rfl) (pe_op op_add pe_int (pe_op op_mod (pe_callTy call_int1 (by rfl) B.int (by decide +kernel) (pa_cons (pv 3) pa_nil)) pe_int))))))
      pss_nil)
    (pss_cons (ps_set (i := 5) sc.nd rfl (Or.inl rfl) (pe_op op_add pe_int (pc g_law_take hr (pa_cons (pv 0) (pa_cons (pv 1) pa_nil)))))
    (pss_cons (ps_set (i := 6) sc.nd rfl (Or.inl rfl) (pc g_law_count hr (pa_cons (pv 1) (pa_cons (pv 2) (pa_cons (pv 3) (pa_cons (pv 4) (pa_cons (pv 1) pa_nil)))))))
    (pss_cons (ps_set (i := 7) sc.nd rfl (Or.inl rfl) (pc g_law_count hr (pa_cons (pv 1) (pa_cons (pv 2) (pa_cons (pv 3) (pa_cons (pv 4) (pa_cons (pe_op op_sub (pv 1) pe_int) pa_nil)))))))
    (pss_cons (ps_set (i := 8) sc.nd rfl (Or.inl rfl) (pe_ix ix_list (pe_lst (pa_cons (pe_un un_neg pe_int) (pa_cons pe_int (pa_cons pe_bl (pa_cons pe_bl (pa_cons pe_non (pa_cons pe_str (pa_cons (pe_op op_pow pe_int pe_int) (pa_cons (pe_tup (pa_cons pe_int pa_nil)) (pa_cons pe_int pa_nil)))))))))) (pc g_law_take hr (pa_cons (pv 0) (pa_cons pe_int pa_nil))) (fun _ _ => rfl)))
    (pss_cons (ps_if (pt_cmpR (op_neD hr.units) (pc g_law_refusal hr (pa_cons (pv 1) (pa_cons (pv 2) (pa_cons (pv 3) (pa_cons (pv 8) (pa_cons (pv 5) pa_nil)))))) (pe_lst (pa_cons pe_str (pa_cons pe_str pa_nil))) (nomark _))
      (pss_one (ps_ret pe_bl))
      pss_nil)
    (pss_cons (ps_if (PW.pt (pw_and (pt_cmpR op_le (pv 6) pe_int (nomark _)) (pw_and1 (pt_not (pt_val (pcG g_law_views_right hg hr (pa_cons (pv 1) (pa_cons (pv 2) (pa_cons (pv 3) (pa_cons (pv 4) pa_nil))))))))))
      (pss_one (ps_ret pe_bl))
      pss_nil)
    (pss_cons (ps_if (PW.pt (pw_and (pt_cmpR op_le (pv 7) pe_int (nomark _)) (pw_and1 (pt_not (pt_val (pcG g_law_branches_right hg hr (pa_cons (pv 1) (pa_cons (pv 2) (pa_cons (pv 3) (pa_cons (pv 4) (pa_cons (pv 5) pa_nil)))))))))))
      (pss_one (ps_ret pe_bl))
      pss_nil)
    (pss_cons (ps_if (PW.pt (pw_and (pt_cmpR op_gt (pv 6) pe_int (nomark _)) (pw_and1 (pt_cmpR op_gt (pv 7) pe_int (nomark _)))))
      (pss_one (ps_ret (pe_cmpR (op_eqD hr.units) (pc g_law_refusal hr (pa_cons (pv 1) (pa_cons (pv 2) (pa_cons (pv 3) (pa_cons (pv 4) (pa_cons (pv 5) pa_nil)))))) (pe_lst (pa_cons pe_str (pa_cons pe_str pa_nil))) (nomark _))))
      pss_nil)
    (pss_cons (ps_if (pt_cmpR op_gt (pv 6) pe_int (nomark _))
      (pss_cons (ps_try_only rfl rfl ⟨rfl, by decide, .inl eTooMany.g⟩ takes0 (fun W pn xe tk _ =>
        (pss_one (ps_expr (pcS gall_views hr tk (pa_cons (pv 1) (pa_cons (pv 2) (pa_cons (pv 3) (pa_cons (pv 4) pa_nil))))))))
        (fun _ _ _ _ _ _ _ => (pss_one (ps_ret pe_bl))))
      (pss_one (ps_ret pe_bl)))
      pss_nil)
    (pss_one (ps_ret pe_bl)))))))))))))))), ?_⟩
  refine ⟨_, rfl, h, d, ds, n0, 3, rfl, hh.1, hh.2, by omega, by omega, fun r1 a1 b1 => ⟨_, _, rfl, rfl, ?_⟩⟩
  have hh1 := hh.next
  refine ⟨_, rfl, h, d, ds, _, 4, rfl, hh1.1, hh1.2, by omega, by omega, fun r2 a2 b2 => ⟨_, _, rfl, rfl, ?_⟩⟩
  have hh2 := hh1.next
  refine ⟨_, rfl, h, d, ds, _, 4, rfl, hh2.1, hh2.2, by omega, by omega, fun r3 a3 b3 => ⟨_, _, rfl, rfl, ?_⟩⟩
  have hh3 := hh2.next
  refine ⟨_, rfl, h, d, ds, _, 5, rfl, hh3.1, hh3.2, by omega, by omega, fun r4 a4 b4 => ?_⟩
  have hh4 := hh3.next
  obtain ⟨T, eT, hT⟩ : ∃ T : Nat, r4 = (T : Int) ∧ T ≤ 4 := ⟨r4.toNat, by omega, by omega⟩
  refine ⟨_, rfl, h, d, ds, _, 2, rfl, hh4.1, hh4.2, by omega, by omega, fun r5 a5 b5 => ⟨_, _, rfl, rfl, _, rfl, ?_⟩⟩
  have hc := hh4.next
  have gg := (((hh.go.trans hh1.go).trans hh2.go).trans hh3.go).trans hh4.go
  refine ite2 (fun _ => ?_) (fun _ => ?_)
  · refine ⟨_, rfl, .inl ⟨_, rfl, _, _, rfl, rfl, (by show (0 : Int) < 2; decide), _, _, rfl, rfl, ?_⟩⟩
    refine ⟨_, rfl, .inl ⟨_, rfl, _, _, rfl, rfl, (by show (0 : Int) < 2; decide), _, _, rfl, rfl, ?_⟩⟩
    obtain ⟨D, eD, D2, D4⟩ : ∃ D : Nat, (2 : Int) = (D : Int) ∧ 2 ≤ D ∧ D ≤ 4 := ⟨2, rfl, by decide, by decide⟩
    obtain ⟨o, eo, o1, o4⟩ : ∃ o : Nat, 1 + (1 + r2) % 2 = (o : Int) ∧ 1 ≤ o ∧ o ≤ 4 := ⟨(1 + (1 + r2) % 2).toNat, by omega, by omega, by omega⟩
    obtain ⟨u, eu, u1, u4⟩ : ∃ o : Nat, 1 + (1 + r3) % 2 = (o : Int) ∧ 1 ≤ o ∧ o ≤ 4 := ⟨(1 + (1 + r3) % 2).toNat, by omega, by omega, by omega⟩
    refine ⟨_, rfl, _, rfl, h, d, ds, _, _, rfl, hc.1, hc.2, by omega, by omega, fun r6 a6 b6 => ⟨_, _, rfl, rfl, ?_⟩⟩
    have gg := gg.trans hc.go
    have hc := hc.next
    obtain ⟨c, ec, c1, cD⟩ : ∃ c : Nat, 1 + r6 = (c : Int) ∧ 1 ≤ c ∧ c ≤ D := ⟨(1 + r6).toNat, by omega, by omega, by omega⟩
    refine ⟨_, rfl, _, rfl, _, rfl, _, rfl, _, rfl, D, T, o, u, D, _, _, _, _, _, rfl, eD, eo, eu, eT, eD, by omega, D4, o1, o4, u1, u4, hT, Nat.le_refl _, by omega, ?_⟩
    refine ⟨_, rfl, _, rfl, _, rfl, _, rfl, _, rfl, _, _, rfl, rfl, D, T, o, u, D - 1, _, _, _, _, _, rfl, eD, eo, eu, eT, by omega, by omega, D4, o1, o4, u1, u4, hT, Nat.sub_le _ _, by omega, ?_⟩
    refine ⟨_, rfl, _, _, rfl, rfl, ⟨by decide, by decide, by decide⟩, (by show 1 ≤ sizeLine; decide), fun t ht => ⟨(by show 9 ≤ sizeLine; decide), fun l hl => ?_⟩⟩
    have t1 := same_new ht (.tup [.int 2])
    have t2 := same_new hl (.lst [.int (-1), .int 5, .bl true, .bl false, .non, .str "1", .int (10 ^ (30 : Int).toNat), .ref t, .int 6])
    have gg := gg.trans (t1.trans t2).go
    have hc0 := hc.same t1
    have hc := (hc.same t1).same t2
    have nl : l ≠ h := (ne_of_none (hc0.1) hl).symm
    refine ⟨_, rfl, h, d, ds, _, 9, rfl, hc.1, hc.2, by omega, by omega, fun q q0 q1 => ?_⟩
    have row : DtAll K _ [.int (-1), .int 5, .bl true, .bl false, .non, .str "1", .int (10 ^ (30 : Int).toNat), .ref t, .int 6] [.int (-1), .int 5, .bool true, .bool false, .none, .str "1", .int (10 ^ (30 : Int).toNat), .tuple [.int 2], .int 6] :=
      .cons (.int _) (.cons (.int _) (.cons (.bl _) (.cons (.bl _) (.cons .non (.cons (.str _) (.cons (.int _) (.cons (.tup (SqT.of (t2 _ _ upd_same)) (.cons (.int 2) .nil)) (.cons (.int _) .nil))))))))
    obtain ⟨y, e', hy, hm, hyd⟩ := (row.stay hc.tups).pick (i := q) (by show -((9 : Nat) : Int) ≤ q; omega) (by show q < ((9 : Nat) : Int); omega)
    refine ⟨l, _, _, y, rfl, rfl, SqL.of (by rw [upd_ne nl, upd_same]), hy, ?_⟩
    have gg := gg.trans hc.go
    have hc := hc.next
    have bad : isNum e' 0 4 = false := by
      simp only [List.mem_cons, List.not_mem_nil, or_false] at hm
      rcases hm with rfl | rfl | rfl | rfl | rfl | rfl | rfl | rfl | rfl <;> first | rfl | decide
    refine ⟨_, rfl, _, rfl, _, rfl, _, rfl, _, rfl, (· = h), D, o, u, c, _, _, _, _, y, e', "reach", rfl, eD, eo, eu, ec, D4, o1, o4, u1, u4, cD, .data hyd.dv, .inl ⟨bad, rfl⟩, fun p1 H1 hp1 sa ea => ?_⟩
    refine ⟨(by show 2 ≤ sizeLine; decide), fun p2 hp2 => ?_⟩
    have sb := same_new hp2 (.lst [.str "reach", .str "reach"])
    refine ⟨_, _, two_dp (sb _ _ ea), two_dp upd_same, two_shaped _ ok_reach_, two_shaped _ ok_reach_, _, rfl, ?_⟩
    rw [two_same]
    refine iteF ?_
    have gg := gg.trans (sa.trans sb).go
    have hc := hc.same (sa.trans sb)
    refine ⟨_, rfl, _, _, rfl, rfl, _, rfl, ?_⟩
    refine ite2 (fun z => ?_) (fun z => ?_)
    · have few := dec_t z
      refine ⟨_, rfl, _, rfl, _, rfl, _, rfl, D, T, o, u, _, _, _, _, rfl, eD, eo, eu, eT, by omega, D4, o1, o4, u1, u4, hT, by rw [cnt_0]; omega, fun Hb sb => ⟨true, rfl, iteF ?_⟩⟩
      have gg := gg.trans sb.go
      have hc := hc.same sb
      refine ⟨_, rfl, _, _, rfl, rfl, _, rfl, ?_⟩
      refine ite2 (fun z => ?_) (fun z => ?_)
      · have few := dec_t z
        refine ⟨_, rfl, _, rfl, _, rfl, _, rfl, _, rfl, D, T, o, u, c, _, _, _, _, _, rfl, eD, eo, eu, eT, ec, by omega, D4, o1, o4, u1, u4, hT, cD, by rw [cnt_c c1 cD]; omega, fun Hb sb => ⟨true, rfl, iteF ?_⟩⟩
        have gg := gg.trans sb.go
        have hc := hc.same sb
        -- the views are many or not
        have cv : cnt D T o u 0 = lcnt D T o u D := cnt_0 D T o u
        have cb : cnt D T o u c = lcnt D T o u (D - 1) := cnt_c c1 cD
        refine ⟨_, rfl, _, _, rfl, rfl, _, rfl, ?_⟩
        refine ite2 (fun m1 => ?_) (fun m1 => ?_)
        · have m1 := dec_t m1
          refine ⟨_, rfl, _, _, rfl, rfl, _, rfl, ?_⟩
          refine ite2 (fun z => ?_) (fun z => ?_)
          · have m2 := dec_t z
            refine ⟨_, rfl, _, rfl, _, rfl, _, rfl, _, rfl, (· = h), D, o, u, c, _, _, _, _, _, .int (T : Int), "many", rfl, eD, eo, eu, ec, D4, o1, o4, u1, u4, cD, (by rw [eT]; exact .data (.int _)), .inr ⟨T, rfl, hT, by omega, by omega, rfl⟩, fun p1 H1 hp1 sa ea => ?_⟩
            refine ⟨(by show 2 ≤ sizeLine; decide), fun p2 hp2 => ?_⟩
            have sb := same_new hp2 (.lst [.str "many", .str "many"])
            refine ⟨_, _, two_dp (sb _ _ ea), two_dp upd_same, two_shaped _ ok_many_, two_shaped _ ok_many_, ?_⟩
            rw [show PyData.eqv (.list [.str "many", .str "many"]) (.list [.str "many", .str "many"]) = true from by simpa using two_same "many"]
            exact k _ _ (gg.trans (sa.trans sb).go) (hc.same (sa.trans sb))
          · refine ⟨_, rfl, _, _, rfl, rfl, _, rfl, ?_⟩
            rw [decide_eq_true (show (200000 : Int) < ((lcnt D T o u D : Nat) : Int) by omega)]
            refine iteT ?_
            refine ⟨_, rfl, _, rfl, _, rfl, _, rfl, (· = h), D, o, u, _, _, _, _, .int (T : Int), rfl, eD, eo, eu, D4, o1, o4, u1, u4, (by rw [eT]; exact .data (.int _)), (fun z => by rw [num_in hT] at z; cases z), fun T' e' _ => ?_⟩
            cases e'
            refine ⟨fun _ => ⟨true, hmm, fun _ a ha => ?_, fun z => nomatch z⟩, fun z => absurd z (by omega)⟩
            exact k _ _ gg hc
        · have m1 := dec_f m1
          refine ⟨_, rfl, _, _, rfl, rfl, _, rfl, ?_⟩
          rw [decide_eq_false (show ¬ (200000 : Int) < ((lcnt D T o u D : Nat) : Int) by omega)]
          refine iteF ?_
          exact k _ _ gg hc
      ·
        -- the views are many or not
        have cv : cnt D T o u 0 = lcnt D T o u D := cnt_0 D T o u
        have cb : cnt D T o u c = lcnt D T o u (D - 1) := cnt_c c1 cD
        refine ⟨_, rfl, _, _, rfl, rfl, _, rfl, ?_⟩
        refine ite2 (fun m1 => ?_) (fun m1 => ?_)
        · have m1 := dec_t m1
          refine ⟨_, rfl, _, _, rfl, rfl, _, rfl, ?_⟩
          refine ite2 (fun z => ?_) (fun z => ?_)
          · have m2 := dec_t z
            refine ⟨_, rfl, _, rfl, _, rfl, _, rfl, _, rfl, (· = h), D, o, u, c, _, _, _, _, _, .int (T : Int), "many", rfl, eD, eo, eu, ec, D4, o1, o4, u1, u4, cD, (by rw [eT]; exact .data (.int _)), .inr ⟨T, rfl, hT, by omega, by omega, rfl⟩, fun p1 H1 hp1 sa ea => ?_⟩
            refine ⟨(by show 2 ≤ sizeLine; decide), fun p2 hp2 => ?_⟩
            have sb := same_new hp2 (.lst [.str "many", .str "many"])
            refine ⟨_, _, two_dp (sb _ _ ea), two_dp upd_same, two_shaped _ ok_many_, two_shaped _ ok_many_, ?_⟩
            rw [show PyData.eqv (.list [.str "many", .str "many"]) (.list [.str "many", .str "many"]) = true from by simpa using two_same "many"]
            exact k _ _ (gg.trans (sa.trans sb).go) (hc.same (sa.trans sb))
          · refine ⟨_, rfl, _, _, rfl, rfl, _, rfl, ?_⟩
            rw [decide_eq_true (show (200000 : Int) < ((lcnt D T o u D : Nat) : Int) by omega)]
            refine iteT ?_
            refine ⟨_, rfl, _, rfl, _, rfl, _, rfl, (· = h), D, o, u, _, _, _, _, .int (T : Int), rfl, eD, eo, eu, D4, o1, o4, u1, u4, (by rw [eT]; exact .data (.int _)), (fun z => by rw [num_in hT] at z; cases z), fun T' e' _ => ?_⟩
            cases e'
            refine ⟨fun _ => ⟨true, hmm, fun _ a ha => ?_, fun z => nomatch z⟩, fun z => absurd z (by omega)⟩
            exact k _ _ gg hc
        · have m1 := dec_f m1
          refine ⟨_, rfl, _, _, rfl, rfl, _, rfl, ?_⟩
          rw [decide_eq_false (show ¬ (200000 : Int) < ((lcnt D T o u D : Nat) : Int) by omega)]
          refine iteF ?_
          exact k _ _ gg hc
    ·
      refine ⟨_, rfl, _, _, rfl, rfl, _, rfl, ?_⟩
      refine ite2 (fun z => ?_) (fun z => ?_)
      · have few := dec_t z
        refine ⟨_, rfl, _, rfl, _, rfl, _, rfl, _, rfl, D, T, o, u, c, _, _, _, _, _, rfl, eD, eo, eu, eT, ec, by omega, D4, o1, o4, u1, u4, hT, cD, by rw [cnt_c c1 cD]; omega, fun Hb sb => ⟨true, rfl, iteF ?_⟩⟩
        have gg := gg.trans sb.go
        have hc := hc.same sb
        -- the views are many or not
        have cv : cnt D T o u 0 = lcnt D T o u D := cnt_0 D T o u
        have cb : cnt D T o u c = lcnt D T o u (D - 1) := cnt_c c1 cD
        refine ⟨_, rfl, _, _, rfl, rfl, _, rfl, ?_⟩
        refine ite2 (fun m1 => ?_) (fun m1 => ?_)
        · have m1 := dec_t m1
          refine ⟨_, rfl, _, _, rfl, rfl, _, rfl, ?_⟩
          refine ite2 (fun z => ?_) (fun z => ?_)
          · have m2 := dec_t z
            refine ⟨_, rfl, _, rfl, _, rfl, _, rfl, _, rfl, (· = h), D, o, u, c, _, _, _, _, _, .int (T : Int), "many", rfl, eD, eo, eu, ec, D4, o1, o4, u1, u4, cD, (by rw [eT]; exact .data (.int _)), .inr ⟨T, rfl, hT, by omega, by omega, rfl⟩, fun p1 H1 hp1 sa ea => ?_⟩
            refine ⟨(by show 2 ≤ sizeLine; decide), fun p2 hp2 => ?_⟩
            have sb := same_new hp2 (.lst [.str "many", .str "many"])
            refine ⟨_, _, two_dp (sb _ _ ea), two_dp upd_same, two_shaped _ ok_many_, two_shaped _ ok_many_, ?_⟩
            rw [show PyData.eqv (.list [.str "many", .str "many"]) (.list [.str "many", .str "many"]) = true from by simpa using two_same "many"]
            exact k _ _ (gg.trans (sa.trans sb).go) (hc.same (sa.trans sb))
          · refine ⟨_, rfl, _, _, rfl, rfl, _, rfl, ?_⟩
            rw [decide_eq_true (show (200000 : Int) < ((lcnt D T o u D : Nat) : Int) by omega)]
            refine iteT ?_
            refine ⟨_, rfl, _, rfl, _, rfl, _, rfl, (· = h), D, o, u, _, _, _, _, .int (T : Int), rfl, eD, eo, eu, D4, o1, o4, u1, u4, (by rw [eT]; exact .data (.int _)), (fun z => by rw [num_in hT] at z; cases z), fun T' e' _ => ?_⟩
            cases e'
            refine ⟨fun _ => ⟨true, hmm, fun _ a ha => ?_, fun z => nomatch z⟩, fun z => absurd z (by omega)⟩
            exact k _ _ gg hc
        · have m1 := dec_f m1
          refine ⟨_, rfl, _, _, rfl, rfl, _, rfl, ?_⟩
          rw [decide_eq_false (show ¬ (200000 : Int) < ((lcnt D T o u D : Nat) : Int) by omega)]
          refine iteF ?_
          exact k _ _ gg hc
      ·
        -- the views are many or not
        have cv : cnt D T o u 0 = lcnt D T o u D := cnt_0 D T o u
        have cb : cnt D T o u c = lcnt D T o u (D - 1) := cnt_c c1 cD
        refine ⟨_, rfl, _, _, rfl, rfl, _, rfl, ?_⟩
        refine ite2 (fun m1 => ?_) (fun m1 => ?_)
        · have m1 := dec_t m1
          refine ⟨_, rfl, _, _, rfl, rfl, _, rfl, ?_⟩
          refine ite2 (fun z => ?_) (fun z => ?_)
          · have m2 := dec_t z
            refine ⟨_, rfl, _, rfl, _, rfl, _, rfl, _, rfl, (· = h), D, o, u, c, _, _, _, _, _, .int (T : Int), "many", rfl, eD, eo, eu, ec, D4, o1, o4, u1, u4, cD, (by rw [eT]; exact .data (.int _)), .inr ⟨T, rfl, hT, by omega, by omega, rfl⟩, fun p1 H1 hp1 sa ea => ?_⟩
            refine ⟨(by show 2 ≤ sizeLine; decide), fun p2 hp2 => ?_⟩
            have sb := same_new hp2 (.lst [.str "many", .str "many"])
            refine ⟨_, _, two_dp (sb _ _ ea), two_dp upd_same, two_shaped _ ok_many_, two_shaped _ ok_many_, ?_⟩
            rw [show PyData.eqv (.list [.str "many", .str "many"]) (.list [.str "many", .str "many"]) = true from by simpa using two_same "many"]
            exact k _ _ (gg.trans (sa.trans sb).go) (hc.same (sa.trans sb))
          · refine ⟨_, rfl, _, _, rfl, rfl, _, rfl, ?_⟩
            rw [decide_eq_true (show (200000 : Int) < ((lcnt D T o u D : Nat) : Int) by omega)]
            refine iteT ?_
            refine ⟨_, rfl, _, rfl, _, rfl, _, rfl, (· = h), D, o, u, _, _, _, _, .int (T : Int), rfl, eD, eo, eu, D4, o1, o4, u1, u4, (by rw [eT]; exact .data (.int _)), (fun z => by rw [num_in hT] at z; cases z), fun T' e' _ => ?_⟩
            cases e'
            refine ⟨fun _ => ⟨true, hmm, fun _ a ha => ?_, fun z => nomatch z⟩, fun z => absurd z (by omega)⟩
            exact k _ _ gg hc
        · have m1 := dec_f m1
          refine ⟨_, rfl, _, _, rfl, rfl, _, rfl, ?_⟩
          rw [decide_eq_false (show ¬ (200000 : Int) < ((lcnt D T o u D : Nat) : Int) by omega)]
          refine iteF ?_
          exact k _ _ gg hc
  · obtain ⟨D, eD, D2, D4⟩ : ∃ D : Nat, 2 + r1 = (D : Int) ∧ 2 ≤ D ∧ D ≤ 4 := ⟨(2 + r1).toNat, by omega, by omega, by omega⟩
    obtain ⟨o, eo, o1, o4⟩ : ∃ o : Nat, 1 + r2 = (o : Int) ∧ 1 ≤ o ∧ o ≤ 4 := ⟨(1 + r2).toNat, by omega, by omega, by omega⟩
    obtain ⟨u, eu, u1, u4⟩ : ∃ o : Nat, 1 + r3 = (o : Int) ∧ 1 ≤ o ∧ o ≤ 4 := ⟨(1 + r3).toNat, by omega, by omega, by omega⟩
    refine ⟨_, rfl, _, rfl, h, d, ds, _, _, rfl, hc.1, hc.2, by omega, by omega, fun r6 a6 b6 => ⟨_, _, rfl, rfl, ?_⟩⟩
    have gg := gg.trans hc.go
    have hc := hc.next
    obtain ⟨c, ec, c1, cD⟩ : ∃ c : Nat, 1 + r6 = (c : Int) ∧ 1 ≤ c ∧ c ≤ D := ⟨(1 + r6).toNat, by omega, by omega, by omega⟩
    refine ⟨_, rfl, _, rfl, _, rfl, _, rfl, _, rfl, D, T, o, u, D, _, _, _, _, _, rfl, eD, eo, eu, eT, eD, by omega, D4, o1, o4, u1, u4, hT, Nat.le_refl _, by omega, ?_⟩
    refine ⟨_, rfl, _, rfl, _, rfl, _, rfl, _, rfl, _, _, rfl, rfl, D, T, o, u, D - 1, _, _, _, _, _, rfl, eD, eo, eu, eT, by omega, by omega, D4, o1, o4, u1, u4, hT, Nat.sub_le _ _, by omega, ?_⟩
    refine ⟨_, rfl, _, _, rfl, rfl, ⟨by decide, by decide, by decide⟩, (by show 1 ≤ sizeLine; decide), fun t ht => ⟨(by show 9 ≤ sizeLine; decide), fun l hl => ?_⟩⟩
    have t1 := same_new ht (.tup [.int 2])
    have t2 := same_new hl (.lst [.int (-1), .int 5, .bl true, .bl false, .non, .str "1", .int (10 ^ (30 : Int).toNat), .ref t, .int 6])
    have gg := gg.trans (t1.trans t2).go
    have hc0 := hc.same t1
    have hc := (hc.same t1).same t2
    have nl : l ≠ h := (ne_of_none (hc0.1) hl).symm
    refine ⟨_, rfl, h, d, ds, _, 9, rfl, hc.1, hc.2, by omega, by omega, fun q q0 q1 => ?_⟩
    have row : DtAll K _ [.int (-1), .int 5, .bl true, .bl false, .non, .str "1", .int (10 ^ (30 : Int).toNat), .ref t, .int 6] [.int (-1), .int 5, .bool true, .bool false, .none, .str "1", .int (10 ^ (30 : Int).toNat), .tuple [.int 2], .int 6] :=
      .cons (.int _) (.cons (.int _) (.cons (.bl _) (.cons (.bl _) (.cons .non (.cons (.str _) (.cons (.int _) (.cons (.tup (SqT.of (t2 _ _ upd_same)) (.cons (.int 2) .nil)) (.cons (.int _) .nil))))))))
    obtain ⟨y, e', hy, hm, hyd⟩ := (row.stay hc.tups).pick (i := q) (by show -((9 : Nat) : Int) ≤ q; omega) (by show q < ((9 : Nat) : Int); omega)
    refine ⟨l, _, _, y, rfl, rfl, SqL.of (by rw [upd_ne nl, upd_same]), hy, ?_⟩
    have gg := gg.trans hc.go
    have hc := hc.next
    have bad : isNum e' 0 4 = false := by
      simp only [List.mem_cons, List.not_mem_nil, or_false] at hm
      rcases hm with rfl | rfl | rfl | rfl | rfl | rfl | rfl | rfl | rfl <;> first | rfl | decide
    refine ⟨_, rfl, _, rfl, _, rfl, _, rfl, _, rfl, (· = h), D, o, u, c, _, _, _, _, y, e', "reach", rfl, eD, eo, eu, ec, D4, o1, o4, u1, u4, cD, .data hyd.dv, .inl ⟨bad, rfl⟩, fun p1 H1 hp1 sa ea => ?_⟩
    refine ⟨(by show 2 ≤ sizeLine; decide), fun p2 hp2 => ?_⟩
    have sb := same_new hp2 (.lst [.str "reach", .str "reach"])
    refine ⟨_, _, two_dp (sb _ _ ea), two_dp upd_same, two_shaped _ ok_reach_, two_shaped _ ok_reach_, _, rfl, ?_⟩
    rw [two_same]
    refine iteF ?_
    have gg := gg.trans (sa.trans sb).go
    have hc := hc.same (sa.trans sb)
    refine ⟨_, rfl, _, _, rfl, rfl, _, rfl, ?_⟩
    refine ite2 (fun z => ?_) (fun z => ?_)
    · have few := dec_t z
      refine ⟨_, rfl, _, rfl, _, rfl, _, rfl, D, T, o, u, _, _, _, _, rfl, eD, eo, eu, eT, by omega, D4, o1, o4, u1, u4, hT, by rw [cnt_0]; omega, fun Hb sb => ⟨true, rfl, iteF ?_⟩⟩
      have gg := gg.trans sb.go
      have hc := hc.same sb
      refine ⟨_, rfl, _, _, rfl, rfl, _, rfl, ?_⟩
      refine ite2 (fun z => ?_) (fun z => ?_)
      · have few := dec_t z
        refine ⟨_, rfl, _, rfl, _, rfl, _, rfl, _, rfl, D, T, o, u, c, _, _, _, _, _, rfl, eD, eo, eu, eT, ec, by omega, D4, o1, o4, u1, u4, hT, cD, by rw [cnt_c c1 cD]; omega, fun Hb sb => ⟨true, rfl, iteF ?_⟩⟩
        have gg := gg.trans sb.go
        have hc := hc.same sb
        -- the views are many or not
        have cv : cnt D T o u 0 = lcnt D T o u D := cnt_0 D T o u
        have cb : cnt D T o u c = lcnt D T o u (D - 1) := cnt_c c1 cD
        refine ⟨_, rfl, _, _, rfl, rfl, _, rfl, ?_⟩
        refine ite2 (fun m1 => ?_) (fun m1 => ?_)
        · have m1 := dec_t m1
          refine ⟨_, rfl, _, _, rfl, rfl, _, rfl, ?_⟩
          refine ite2 (fun z => ?_) (fun z => ?_)
          · have m2 := dec_t z
            refine ⟨_, rfl, _, rfl, _, rfl, _, rfl, _, rfl, (· = h), D, o, u, c, _, _, _, _, _, .int (T : Int), "many", rfl, eD, eo, eu, ec, D4, o1, o4, u1, u4, cD, (by rw [eT]; exact .data (.int _)), .inr ⟨T, rfl, hT, by omega, by omega, rfl⟩, fun p1 H1 hp1 sa ea => ?_⟩
            refine ⟨(by show 2 ≤ sizeLine; decide), fun p2 hp2 => ?_⟩
            have sb := same_new hp2 (.lst [.str "many", .str "many"])
            refine ⟨_, _, two_dp (sb _ _ ea), two_dp upd_same, two_shaped _ ok_many_, two_shaped _ ok_many_, ?_⟩
            rw [show PyData.eqv (.list [.str "many", .str "many"]) (.list [.str "many", .str "many"]) = true from by simpa using two_same "many"]
            exact k _ _ (gg.trans (sa.trans sb).go) (hc.same (sa.trans sb))
          · refine ⟨_, rfl, _, _, rfl, rfl, _, rfl, ?_⟩
            rw [decide_eq_true (show (200000 : Int) < ((lcnt D T o u D : Nat) : Int) by omega)]
            refine iteT ?_
            refine ⟨_, rfl, _, rfl, _, rfl, _, rfl, (· = h), D, o, u, _, _, _, _, .int (T : Int), rfl, eD, eo, eu, D4, o1, o4, u1, u4, (by rw [eT]; exact .data (.int _)), (fun z => by rw [num_in hT] at z; cases z), fun T' e' _ => ?_⟩
            cases e'
            refine ⟨fun _ => ⟨true, hmm, fun _ a ha => ?_, fun z => nomatch z⟩, fun z => absurd z (by omega)⟩
            exact k _ _ gg hc
        · have m1 := dec_f m1
          refine ⟨_, rfl, _, _, rfl, rfl, _, rfl, ?_⟩
          rw [decide_eq_false (show ¬ (200000 : Int) < ((lcnt D T o u D : Nat) : Int) by omega)]
          refine iteF ?_
          exact k _ _ gg hc
      ·
        -- the views are many or not
        have cv : cnt D T o u 0 = lcnt D T o u D := cnt_0 D T o u
        have cb : cnt D T o u c = lcnt D T o u (D - 1) := cnt_c c1 cD
        refine ⟨_, rfl, _, _, rfl, rfl, _, rfl, ?_⟩
        refine ite2 (fun m1 => ?_) (fun m1 => ?_)
        · have m1 := dec_t m1
          refine ⟨_, rfl, _, _, rfl, rfl, _, rfl, ?_⟩
          refine ite2 (fun z => ?_) (fun z => ?_)
          · have m2 := dec_t z
            refine ⟨_, rfl, _, rfl, _, rfl, _, rfl, _, rfl, (· = h), D, o, u, c, _, _, _, _, _, .int (T : Int), "many", rfl, eD, eo, eu, ec, D4, o1, o4, u1, u4, cD, (by rw [eT]; exact .data (.int _)), .inr ⟨T, rfl, hT, by omega, by omega, rfl⟩, fun p1 H1 hp1 sa ea => ?_⟩
            refine ⟨(by show 2 ≤ sizeLine; decide), fun p2 hp2 => ?_⟩
            have sb := same_new hp2 (.lst [.str "many", .str "many"])
            refine ⟨_, _, two_dp (sb _ _ ea), two_dp upd_same, two_shaped _ ok_many_, two_shaped _ ok_many_, ?_⟩
            rw [show PyData.eqv (.list [.str "many", .str "many"]) (.list [.str "many", .str "many"]) = true from by simpa using two_same "many"]
            exact k _ _ (gg.trans (sa.trans sb).go) (hc.same (sa.trans sb))
          · refine ⟨_, rfl, _, _, rfl, rfl, _, rfl, ?_⟩
            rw [decide_eq_true (show (200000 : Int) < ((lcnt D T o u D : Nat) : Int) by omega)]
            refine iteT ?_
            refine ⟨_, rfl, _, rfl, _, rfl, _, rfl, (· = h), D, o, u, _, _, _, _, .int (T : Int), rfl, eD, eo, eu, D4, o1, o4, u1, u4, (by rw [eT]; exact .data (.int _)), (fun z => by rw [num_in hT] at z; cases z), fun T' e' _ => ?_⟩
            cases e'
            refine ⟨fun _ => ⟨true, hmm, fun _ a ha => ?_, fun z => nomatch z⟩, fun z => absurd z (by omega)⟩
            exact k _ _ gg hc
        · have m1 := dec_f m1
          refine ⟨_, rfl, _, _, rfl, rfl, _, rfl, ?_⟩
          rw [decide_eq_false (show ¬ (200000 : Int) < ((lcnt D T o u D : Nat) : Int) by omega)]
          refine iteF ?_
          exact k _ _ gg hc
    ·
      refine ⟨_, rfl, _, _, rfl, rfl, _, rfl, ?_⟩
      refine ite2 (fun z => ?_) (fun z => ?_)
      · have few := dec_t z
        refine ⟨_, rfl, _, rfl, _, rfl, _, rfl, _, rfl, D, T, o, u, c, _, _, _, _, _, rfl, eD, eo, eu, eT, ec, by omega, D4, o1, o4, u1, u4, hT, cD, by rw [cnt_c c1 cD]; omega, fun Hb sb => ⟨true, rfl, iteF ?_⟩⟩
        have gg := gg.trans sb.go
        have hc := hc.same sb
        -- the views are many or not
        have cv : cnt D T o u 0 = lcnt D T o u D := cnt_0 D T o u
        have cb : cnt D T o u c = lcnt D T o u (D - 1) := cnt_c c1 cD
        refine ⟨_, rfl, _, _, rfl, rfl, _, rfl, ?_⟩
        refine ite2 (fun m1 => ?_) (fun m1 => ?_)
        · have m1 := dec_t m1
          refine ⟨_, rfl, _, _, rfl, rfl, _, rfl, ?_⟩
          refine ite2 (fun z => ?_) (fun z => ?_)
          · have m2 := dec_t z
            refine ⟨_, rfl, _, rfl, _, rfl, _, rfl, _, rfl, (· = h), D, o, u, c, _, _, _, _, _, .int (T : Int), "many", rfl, eD, eo, eu, ec, D4, o1, o4, u1, u4, cD, (by rw [eT]; exact .data (.int _)), .inr ⟨T, rfl, hT, by omega, by omega, rfl⟩, fun p1 H1 hp1 sa ea => ?_⟩
            refine ⟨(by show 2 ≤ sizeLine; decide), fun p2 hp2 => ?_⟩
            have sb := same_new hp2 (.lst [.str "many", .str "many"])
            refine ⟨_, _, two_dp (sb _ _ ea), two_dp upd_same, two_shaped _ ok_many_, two_shaped _ ok_many_, ?_⟩
            rw [show PyData.eqv (.list [.str "many", .str "many"]) (.list [.str "many", .str "many"]) = true from by simpa using two_same "many"]
            exact k _ _ (gg.trans (sa.trans sb).go) (hc.same (sa.trans sb))
          · refine ⟨_, rfl, _, _, rfl, rfl, _, rfl, ?_⟩
            rw [decide_eq_true (show (200000 : Int) < ((lcnt D T o u D : Nat) : Int) by omega)]
            refine iteT ?_
            refine ⟨_, rfl, _, rfl, _, rfl, _, rfl, (· = h), D, o, u, _, _, _, _, .int (T : Int), rfl, eD, eo, eu, D4, o1, o4, u1, u4, (by rw [eT]; exact .data (.int _)), (fun z => by rw [num_in hT] at z; cases z), fun T' e' _ => ?_⟩
            cases e'
            refine ⟨fun _ => ⟨true, hmm, fun _ a ha => ?_, fun z => nomatch z⟩, fun z => absurd z (by omega)⟩
            exact k _ _ gg hc
        · have m1 := dec_f m1
          refine ⟨_, rfl, _, _, rfl, rfl, _, rfl, ?_⟩
          rw [decide_eq_false (show ¬ (200000 : Int) < ((lcnt D T o u D : Nat) : Int) by omega)]
          refine iteF ?_
          exact k _ _ gg hc
      ·
        -- the views are many or not
        have cv : cnt D T o u 0 = lcnt D T o u D := cnt_0 D T o u
        have cb : cnt D T o u c = lcnt D T o u (D - 1) := cnt_c c1 cD
        refine ⟨_, rfl, _, _, rfl, rfl, _, rfl, ?_⟩
        refine ite2 (fun m1 => ?_) (fun m1 => ?_)
        · have m1 := dec_t m1
          refine ⟨_, rfl, _, _, rfl, rfl, _, rfl, ?_⟩
          refine ite2 (fun z => ?_) (fun z => ?_)
          · have m2 := dec_t z
            refine ⟨_, rfl, _, rfl, _, rfl, _, rfl, _, rfl, (· = h), D, o, u, c, _, _, _, _, _, .int (T : Int), "many", rfl, eD, eo, eu, ec, D4, o1, o4, u1, u4, cD, (by rw [eT]; exact .data (.int _)), .inr ⟨T, rfl, hT, by omega, by omega, rfl⟩, fun p1 H1 hp1 sa ea => ?_⟩
            refine ⟨(by show 2 ≤ sizeLine; decide), fun p2 hp2 => ?_⟩
            have sb := same_new hp2 (.lst [.str "many", .str "many"])
            refine ⟨_, _, two_dp (sb _ _ ea), two_dp upd_same, two_shaped _ ok_many_, two_shaped _ ok_many_, ?_⟩
            rw [show PyData.eqv (.list [.str "many", .str "many"]) (.list [.str "many", .str "many"]) = true from by simpa using two_same "many"]
            exact k _ _ (gg.trans (sa.trans sb).go) (hc.same (sa.trans sb))
          · refine ⟨_, rfl, _, _, rfl, rfl, _, rfl, ?_⟩
            rw [decide_eq_true (show (200000 : Int) < ((lcnt D T o u D : Nat) : Int) by omega)]
            refine iteT ?_
            refine ⟨_, rfl, _, rfl, _, rfl, _, rfl, (· = h), D, o, u, _, _, _, _, .int (T : Int), rfl, eD, eo, eu, D4, o1, o4, u1, u4, (by rw [eT]; exact .data (.int _)), (fun z => by rw [num_in hT] at z; cases z), fun T' e' _ => ?_⟩
            cases e'
            refine ⟨fun _ => ⟨true, hmm, fun _ a ha => ?_, fun z => nomatch z⟩, fun z => absurd z (by omega)⟩
            exact k _ _ gg hc
        · have m1 := dec_f m1
          refine ⟨_, rfl, _, _, rfl, rfl, _, rfl, ?_⟩
          rw [decide_eq_false (show ¬ (200000 : Int) < ((lcnt D T o u D : Nat) : Int) by omega)]
          refine iteF ?_
          exact k _ _ gg hc
end
section
variable {P : Program} {w : World} {K : PySem.W.Frag} {mg : Str → Option Value} {base : Heap}
def spLaw (K : PySem.W.Frag) : Sp := fun vs H Q _ => ∃ (a : Addr) (ns : List Int), vs = [.ref a] ∧ SqL K H a (ns.map V.int) ∧ ns.length ≤ 63 ∧ ∀ H', Q (.bl true) H'
theorem few_a : cnt 3 4 1 1 0 ≤ 1100 := by
  rw [cnt_0]
  decide
theorem few_b : cnt 4 1 2 1 3 ≤ 1100 := by
  rw [cnt_c (by decide) (by decide)]
  decide
set_option maxHeartbeats 1000000 in
theorem ok_all {f : Addr} {fd : FuncData} (B : Blt mg) (g_law_draws : Has P w K mg base CX0 1 "_law_draws" ["script", "many"] (spDraws K)) (g_law_take : Has P w K mg base CX0 1 "_law_take" ["hand", "many"] (spTake K))
    (g_law_one : HasG P w K mg base 10 "_law_one" ["hand"] (spOne K)) (g_law_large : HasG P w K mg base 9 "_law_large" ["shape"] (spLarge K))
    (g_law_views_right : HasG P w K mg base 9 "_law_views_right" ["colours", "own", "other", "reach"] (spRightV K)) (g_law_branches_right : HasG P w K mg base 9 "_law_branches_right" ["colours", "own", "other", "reach", "colour"] (spRightB K))
    (F : Fun K "_law_all" "_law_all" s_law_all f fd) : FnG P w K mg base 11 f fd ["script"] (spLaw K) := by
  have sc : FnScope ["script", "hand", "rare", "k"] ["script"] (defScope s_law_all) := ⟨rfl, rfl, rfl, by decide +kernel, rfl, by decide +kernel, by decide +kernel⟩
  refine FnG.by F sc (fun vs H Q E h => ?_) (fun cdv A outer s H vs Q E hg hr h => ?_)
  · obtain ⟨_, _, rfl, _⟩ := h
    rfl
  obtain ⟨a, ns, rfl, hS, h63, k⟩ := h
  refine ⟨_, (pss_cons (ps_set (i := 1) sc.nd rfl (Or.inl rfl) (pe_lst (pa_cons (pc g_law_draws hr (pa_cons (pv 0) (pa_cons pe_int pa_nil))) (pa_cons pe_int pa_nil))))
    (pss_cons (ps_set (i := 2) sc.nd rfl (Or.inl rfl) (pc g_law_take hr (pa_cons (pv 1) (pa_cons pe_int pa_nil))))
    (pss_cons (ps_for PassesOwn.never rfl (pi_range1 (by rfl) B.range (pa_cons pe_int pa_nil)) (pg_name (i := 3) sc.nd rfl (Or.inl rfl))
      (pss_one (ps_if (pt_not (pt_val (pcG g_law_one hg hr (pa_cons (pv 1) pa_nil))))
        (pss_one (ps_ret pe_bl))
        pss_nil)))
    (pss_cons (ps_if (PW.pt (pw_and (pt_cmpR op_lt (pv 2) pe_int (nomark _)) (pw_and1 (pt_not (pt_val (pcG g_law_large hg hr (pa_cons (pv 2) pa_nil)))))))
      (pss_one (ps_ret pe_bl))
      pss_nil)
    (pss_one (ps_ret (pe_and (pcG g_law_views_right hg hr (pa_cons pe_int (pa_cons pe_int (pa_cons pe_int (pa_cons pe_int pa_nil))))) (pe_one (pcG g_law_branches_right hg hr (pa_cons pe_int (pa_cons pe_int (pa_cons pe_int (pa_cons pe_int (pa_cons pe_int pa_nil)))))))))))))), ?_⟩
  refine ⟨_, rfl, a, ns, 40, rfl, hS, h63, by omega, fun d H1 ds hd0 s1 hd1 hdl hdb => ⟨(by show 2 ≤ sizeLine; decide), fun h hh0 => ?_⟩⟩
  have ndh : d ≠ h := ne_of_none hd1 hh0
  have hH1 : Hand (upd H1 h (.lst [.ref d, .int 0])) h d ds 0 := ⟨upd_same, by rw [upd_ne ndh]; exact hd1⟩
  refine ⟨_, rfl, h, d, ds, 0, 800, rfl, hH1.1, hH1.2, by omega, by omega, fun r r0 r1 => ?_⟩
  have hh1 := hH1.next
  refine ⟨3, rfl, by decide, by decide, for_range (lo := 0) (n := (3 : Int).toNat) (fun i σ H' => ∃ (n : Nat) (kv : Option V), σ = [some (.ref a), some (.ref h), some (.int r), kv] ∧ Hand H' h d ds n)
    ⟨_, none, rfl, hh1⟩ ?_ ?_⟩
  · rintro i σ H' hi ⟨n, kv, rfl, hh⟩
    refine ⟨_, rfl, h, d, ds, n, rfl, hh, fun H2 n2 g2 hh2 => ⟨true, rfl, iteF ?_⟩⟩
    exact ⟨_, _, rfl, hh2⟩
  · rintro σ H' ⟨n, kv, rfl, hh⟩
    refine ⟨_, rfl, _, _, rfl, rfl, _, rfl, ?_⟩
    refine ite2 (fun c => ?_) (fun c => ?_)
    · have c' := dec_t c
      refine ⟨_, rfl, r, rfl, by omega, fun H5 _ => ⟨true, rfl, iteF ?_⟩⟩
      refine ⟨3, 4, 1, 1, 3, 1, 1, 4, rfl, rfl, rfl, rfl, rfl, by decide, by decide, by decide, by decide, by decide, by decide, by decide, few_a, fun H6 _ => ?_⟩
      refine ⟨_, rfl, ?_⟩
      refine iteT ?_
      exact ⟨4, 1, 2, 1, 3, 4, 2, 1, 1, 3, rfl, rfl, rfl, rfl, rfl, rfl, by decide, by decide, by decide, by decide, by decide, by decide, by decide, by decide, few_b, fun H7 _ => k H7⟩
    ·
      refine ⟨3, 4, 1, 1, 3, 1, 1, 4, rfl, rfl, rfl, rfl, rfl, by decide, by decide, by decide, by decide, by decide, by decide, by decide, few_a, fun H6 _ => ?_⟩
      refine ⟨_, rfl, ?_⟩
      refine iteT ?_
      exact ⟨4, 1, 2, 1, 3, 4, 2, 1, 1, 3, rfl, rfl, rfl, rfl, rfl, rfl, by decide, by decide, by decide, by decide, by decide, by decide, by decide, by decide, few_b, fun H7 _ => k H7⟩
theorem ok_law {C : Addr} {f : Addr} {fd : FuncData} (B : Blt mg) (eLookError : Err K mg "LookError" C) (g_law_all : HasG P w K mg base 11 "_law_all" ["script"] (spLaw K)) (F : Fun K "law" "law" slaw f fd) : FnG P w K mg base 12 f fd ["script"] (spLaw K) := by
  have sc : FnScope ["script"] ["script"] (defScope slaw) := ⟨rfl, rfl, rfl, by decide +kernel, rfl, by decide +kernel, by decide +kernel⟩
  refine FnG.by F sc (fun vs H Q E h => ?_) (fun cdv A outer s H vs Q E hg hr h => ?_)
  · obtain ⟨_, _, rfl, _⟩ := h
    rfl
  obtain ⟨a, ns, rfl, hS, h63, k⟩ := h
  refine ⟨_, (pss_one (ps_try_only rfl rfl ⟨rfl, by decide, .inl eLookError.g⟩ takes0 (fun W pn xe tk _ =>
      (pss_one (ps_ret (pcG g_law_all hg hr (pa_cons (pv 0) pa_nil)))))
      (fun _ _ _ _ _ _ _ => (pss_one (ps_ret pe_bl))))), ?_⟩
  exact ⟨_, rfl, a, ns, rfl, hS, h63, fun H' => k H'⟩
end
/-! ### the top: the defs stand there as the text says -/
theorem def_mk {K : PySem.W.Frag} {h : Heap} {mg : Str → Option Value} {x : Str} {st : Stmt} {ps : List Str} {f : Addr} {od an : Option Addr} {sl : Array (Option Value)} {oc kV dc pm cd ct : Value} (X : K.In h) (G : h.Ns mainGlobals mg)
    (a : PySem.W.nsIn K mainGlobals x = some (some (.ref f))) (l : K.lookup f = some ⟨oc, od, .func (PySem.W.fnOf x x (defArgs st) (defBody st) (defScope st) .none kV dc pm an cd ct), sl⟩) (c : PySem.W.codeIn K cd x = true) (k : PySem.W.keepIn K (.ref f) = true)
    (b : ∀ (kV doc pm : Value) (an : Option Addr) (cdv ct : Value) (us : List Value), us.length = ps.length → bindArgs (PySem.W.fnOf x x (defArgs st) (defBody st) (defScope st) .none kV doc pm an cdv ct) ⟨us, []⟩ = pure (ps.zip us)) : Def K mg x st ps :=
  ⟨f, _, fun_mk l c k, PySem.W.mg_of X G a, (fun_mk l c k).binds b⟩
theorem all_mk {l : PySem.W.OpenLaw} {w : World} {K : PySem.W.Frag} {h : Heap} {mg : Str → Option Value} {fa f5 f6 f8 f13 f14 f15 f16 f17 f19 f20 f21 f22 f23 f24 f25 f26 f27 f28 f29 f30 f31 CBadReach CTooMany CLookError : Addr} (X : K.In h) (G : h.Ns mainGlobals mg) (hfa : mg "law" = some (.ref fa))
    {od5 an5 od6 an6 od8 an8 od13 an13 od14 an14 od15 an15 od16 an16 od17 an17 od19 an19 od20 an20 od21 an21 od22 an22 od23 an23 od24 an24 od25 an25 od26 an26 od27 an27 od28 an28 od29 an29 od30 an30 od31 an31 : Option Addr} {D15 : Addr} {D16 : Addr} {sl5 sl6 sl8 sl13 sl14 sl15 sl16 sl17 sl19 sl20 sl21 sl22 sl23 sl24 sl25 sl26 sl27 sl28 sl29 sl30 sl31 : Array (Option Value)} {oc5 kV5 dc5 pm5 cd5 ct5 oc6 kV6 dc6 pm6 cd6 ct6 oc8 kV8 dc8 pm8 cd8 ct8 oc13 kV13 dc13 pm13 cd13 ct13 oc14 kV14 dc14 pm14 cd14 ct14 oc15 kV15 dc15 pm15 cd15 ct15 oc16 kV16 dc16 pm16 cd16 ct16 oc17 kV17 dc17 pm17 cd17 ct17 oc19 kV19 dc19 pm19 cd19 ct19 oc20 kV20 dc20 pm20 cd20 ct20 oc21 kV21 dc21 pm21 cd21 ct21 oc22 kV22 dc22 pm22 cd22 ct22 oc23 kV23 dc23 pm23 cd23 ct23 oc24 kV24 dc24 pm24 cd24 ct24 oc25 kV25 dc25 pm25 cd25 ct25 oc26 kV26 dc26 pm26 cd26 ct26 oc27 kV27 dc27 pm27 cd27 ct27 oc28 kV28 dc28 pm28 cd28 ct28 oc29 kV29 dc29 pm29 cd29 ct29 oc30 kV30 dc30 pm30 cd30 ct30 oc31 kV31 dc31 pm31 cd31 ct31 : Value}
    (a5 : PySem.W.nsIn K mainGlobals "is_number" = some (some (.ref f5))) (l5 : K.lookup f5 = some ⟨oc5, od5, .func (PySem.W.fnOf "is_number" "is_number" (defArgs sis_number) (defBody sis_number) (defScope sis_number) .none kV5 dc5 pm5 an5 cd5 ct5), sl5⟩) (c5 : PySem.W.codeIn K cd5 "is_number" = true) (k5 : PySem.W.keepIn K (.ref f5) = true)
    (a6 : PySem.W.nsIn K mainGlobals "check_reach" = some (some (.ref f6))) (l6 : K.lookup f6 = some ⟨oc6, od6, .func (PySem.W.fnOf "check_reach" "check_reach" (defArgs scheck_reach) (defBody scheck_reach) (defScope scheck_reach) .none kV6 dc6 pm6 an6 cd6 ct6), sl6⟩) (c6 : PySem.W.codeIn K cd6 "check_reach" = true) (k6 : PySem.W.keepIn K (.ref f6) = true)
    (a8 : PySem.W.nsIn K mainGlobals "choices" = some (some (.ref f8))) (l8 : K.lookup f8 = some ⟨oc8, od8, .func (PySem.W.fnOf "choices" "choices" (defArgs schoices) (defBody schoices) (defScope schoices) .none kV8 dc8 pm8 an8 cd8 ct8), sl8⟩) (c8 : PySem.W.codeIn K cd8 "choices" = true) (k8 : PySem.W.keepIn K (.ref f8) = true)
    (a13 : PySem.W.nsIn K mainGlobals "all_views" = some (some (.ref f13))) (l13 : K.lookup f13 = some ⟨oc13, od13, .func (PySem.W.fnOf "all_views" "all_views" (defArgs sall_views) (defBody sall_views) (defScope sall_views) .none kV13 dc13 pm13 an13 cd13 ct13), sl13⟩) (c13 : PySem.W.codeIn K cd13 "all_views" = true) (k13 : PySem.W.keepIn K (.ref f13) = true)
    (a14 : PySem.W.nsIn K mainGlobals "all_branches" = some (some (.ref f14))) (l14 : K.lookup f14 = some ⟨oc14, od14, .func (PySem.W.fnOf "all_branches" "all_branches" (defArgs sall_branches) (defBody sall_branches) (defScope sall_branches) .none kV14 dc14 pm14 an14 cd14 ct14), sl14⟩) (c14 : PySem.W.codeIn K cd14 "all_branches" = true) (k14 : PySem.W.keepIn K (.ref f14) = true)
    (a15 : PySem.W.nsIn K mainGlobals "count_views" = some (some (.ref f15))) (l15 : K.lookup f15 = some ⟨oc15, od15, .func (PySem.W.fnOf "count_views" "count_views" (defArgs scount_views) (defBody scount_views) (defScope scount_views) (.ref D15) kV15 dc15 pm15 an15 cd15 ct15), sl15⟩) (c15 : PySem.W.codeIn K cd15 "count_views" = true) (k15 : PySem.W.keepIn K (.ref f15) = true) (v15 : DflV K (.ref D15) [.int 0])
    (a16 : PySem.W.nsIn K mainGlobals "check_many" = some (some (.ref f16))) (l16 : K.lookup f16 = some ⟨oc16, od16, .func (PySem.W.fnOf "check_many" "check_many" (defArgs scheck_many) (defBody scheck_many) (defScope scheck_many) (.ref D16) kV16 dc16 pm16 an16 cd16 ct16), sl16⟩) (c16 : PySem.W.codeIn K cd16 "check_many" = true) (k16 : PySem.W.keepIn K (.ref f16) = true) (v16 : DflV K (.ref D16) [.int 0])
    (a17 : PySem.W.nsIn K mainGlobals "_branches" = some (some (.ref f17))) (l17 : K.lookup f17 = some ⟨oc17, od17, .func (PySem.W.fnOf "_branches" "_branches" (defArgs s_branches) (defBody s_branches) (defScope s_branches) .none kV17 dc17 pm17 an17 cd17 ct17), sl17⟩) (c17 : PySem.W.codeIn K cd17 "_branches" = true) (k17 : PySem.W.keepIn K (.ref f17) = true)
    (a19 : PySem.W.nsIn K mainGlobals "_law_draws" = some (some (.ref f19))) (l19 : K.lookup f19 = some ⟨oc19, od19, .func (PySem.W.fnOf "_law_draws" "_law_draws" (defArgs s_law_draws) (defBody s_law_draws) (defScope s_law_draws) .none kV19 dc19 pm19 an19 cd19 ct19), sl19⟩) (c19 : PySem.W.codeIn K cd19 "_law_draws" = true) (k19 : PySem.W.keepIn K (.ref f19) = true)
    (a20 : PySem.W.nsIn K mainGlobals "_law_take" = some (some (.ref f20))) (l20 : K.lookup f20 = some ⟨oc20, od20, .func (PySem.W.fnOf "_law_take" "_law_take" (defArgs s_law_take) (defBody s_law_take) (defScope s_law_take) .none kV20 dc20 pm20 an20 cd20 ct20), sl20⟩) (c20 : PySem.W.codeIn K cd20 "_law_take" = true) (k20 : PySem.W.keepIn K (.ref f20) = true)
    (a21 : PySem.W.nsIn K mainGlobals "_law_choices" = some (some (.ref f21))) (l21 : K.lookup f21 = some ⟨oc21, od21, .func (PySem.W.fnOf "_law_choices" "_law_choices" (defArgs s_law_choices) (defBody s_law_choices) (defScope s_law_choices) .none kV21 dc21 pm21 an21 cd21 ct21), sl21⟩) (c21 : PySem.W.codeIn K cd21 "_law_choices" = true) (k21 : PySem.W.keepIn K (.ref f21) = true)
    (a22 : PySem.W.nsIn K mainGlobals "_law_branches" = some (some (.ref f22))) (l22 : K.lookup f22 = some ⟨oc22, od22, .func (PySem.W.fnOf "_law_branches" "_law_branches" (defArgs s_law_branches) (defBody s_law_branches) (defScope s_law_branches) .none kV22 dc22 pm22 an22 cd22 ct22), sl22⟩) (c22 : PySem.W.codeIn K cd22 "_law_branches" = true) (k22 : PySem.W.keepIn K (.ref f22) = true)
    (a23 : PySem.W.nsIn K mainGlobals "_law_count" = some (some (.ref f23))) (l23 : K.lookup f23 = some ⟨oc23, od23, .func (PySem.W.fnOf "_law_count" "_law_count" (defArgs s_law_count) (defBody s_law_count) (defScope s_law_count) .none kV23 dc23 pm23 an23 cd23 ct23), sl23⟩) (c23 : PySem.W.codeIn K cd23 "_law_count" = true) (k23 : PySem.W.keepIn K (.ref f23) = true)
    (a24 : PySem.W.nsIn K mainGlobals "_law_refusal" = some (some (.ref f24))) (l24 : K.lookup f24 = some ⟨oc24, od24, .func (PySem.W.fnOf "_law_refusal" "_law_refusal" (defArgs s_law_refusal) (defBody s_law_refusal) (defScope s_law_refusal) .none kV24 dc24 pm24 an24 cd24 ct24), sl24⟩) (c24 : PySem.W.codeIn K cd24 "_law_refusal" = true) (k24 : PySem.W.keepIn K (.ref f24) = true)
    (a25 : PySem.W.nsIn K mainGlobals "_law_views_right" = some (some (.ref f25))) (l25 : K.lookup f25 = some ⟨oc25, od25, .func (PySem.W.fnOf "_law_views_right" "_law_views_right" (defArgs s_law_views_right) (defBody s_law_views_right) (defScope s_law_views_right) .none kV25 dc25 pm25 an25 cd25 ct25), sl25⟩) (c25 : PySem.W.codeIn K cd25 "_law_views_right" = true) (k25 : PySem.W.keepIn K (.ref f25) = true)
    (a26 : PySem.W.nsIn K mainGlobals "_law_branches_right" = some (some (.ref f26))) (l26 : K.lookup f26 = some ⟨oc26, od26, .func (PySem.W.fnOf "_law_branches_right" "_law_branches_right" (defArgs s_law_branches_right) (defBody s_law_branches_right) (defScope s_law_branches_right) .none kV26 dc26 pm26 an26 cd26 ct26), sl26⟩) (c26 : PySem.W.codeIn K cd26 "_law_branches_right" = true) (k26 : PySem.W.keepIn K (.ref f26) = true)
    (a27 : PySem.W.nsIn K mainGlobals "_law_end" = some (some (.ref f27))) (l27 : K.lookup f27 = some ⟨oc27, od27, .func (PySem.W.fnOf "_law_end" "_law_end" (defArgs s_law_end) (defBody s_law_end) (defScope s_law_end) .none kV27 dc27 pm27 an27 cd27 ct27), sl27⟩) (c27 : PySem.W.codeIn K cd27 "_law_end" = true) (k27 : PySem.W.keepIn K (.ref f27) = true)
    (a28 : PySem.W.nsIn K mainGlobals "_law_large" = some (some (.ref f28))) (l28 : K.lookup f28 = some ⟨oc28, od28, .func (PySem.W.fnOf "_law_large" "_law_large" (defArgs s_law_large) (defBody s_law_large) (defScope s_law_large) .none kV28 dc28 pm28 an28 cd28 ct28), sl28⟩) (c28 : PySem.W.codeIn K cd28 "_law_large" = true) (k28 : PySem.W.keepIn K (.ref f28) = true)
    (a29 : PySem.W.nsIn K mainGlobals "_law_one" = some (some (.ref f29))) (l29 : K.lookup f29 = some ⟨oc29, od29, .func (PySem.W.fnOf "_law_one" "_law_one" (defArgs s_law_one) (defBody s_law_one) (defScope s_law_one) .none kV29 dc29 pm29 an29 cd29 ct29), sl29⟩) (c29 : PySem.W.codeIn K cd29 "_law_one" = true) (k29 : PySem.W.keepIn K (.ref f29) = true)
    (a30 : PySem.W.nsIn K mainGlobals "_law_all" = some (some (.ref f30))) (l30 : K.lookup f30 = some ⟨oc30, od30, .func (PySem.W.fnOf "_law_all" "_law_all" (defArgs s_law_all) (defBody s_law_all) (defScope s_law_all) .none kV30 dc30 pm30 an30 cd30 ct30), sl30⟩) (c30 : PySem.W.codeIn K cd30 "_law_all" = true) (k30 : PySem.W.keepIn K (.ref f30) = true)
    (a31 : PySem.W.nsIn K mainGlobals "law" = some (some (.ref f31))) (l31 : K.lookup f31 = some ⟨oc31, od31, .func (PySem.W.fnOf "law" "law" (defArgs slaw) (defBody slaw) (defScope slaw) .none kV31 dc31 pm31 an31 cd31 ct31), sl31⟩) (c31 : PySem.W.codeIn K cd31 "law" = true) (k31 : PySem.W.keepIn K (.ref f31) = true)
    (gBadReach : PySem.W.nsIn K mainGlobals "BadReach" = some (some (.ref CBadReach))) (xBadReach : PySem.W.excIn K CBadReach [.type "ValueError", .type "Exception", .type "BaseException", .type "object"] "ValueError.__new__" = true) (kBadReach : PySem.W.keepIn K (.ref CBadReach) = true) (bBadReach : PySem.W.subIn K (.ref CBadReach) (.type "BaseException") = some true) (tBadReach : PySem.W.typeIn K (.ref CBadReach) = some (.type "type")) (iBadReach : PySem.W.isClsIn K CBadReach = true)
    (gTooMany : PySem.W.nsIn K mainGlobals "TooMany" = some (some (.ref CTooMany))) (xTooMany : PySem.W.excIn K CTooMany [.type "ValueError", .type "Exception", .type "BaseException", .type "object"] "ValueError.__new__" = true) (kTooMany : PySem.W.keepIn K (.ref CTooMany) = true) (bTooMany : PySem.W.subIn K (.ref CTooMany) (.type "BaseException") = some true) (tTooMany : PySem.W.typeIn K (.ref CTooMany) = some (.type "type")) (iTooMany : PySem.W.isClsIn K CTooMany = true)
    (gLookError : PySem.W.nsIn K mainGlobals "LookError" = some (some (.ref CLookError))) (xLookError : PySem.W.excIn K CLookError [.type "ValueError", .type "Exception", .type "BaseException", .type "object"] "ValueError.__new__" = true) (kLookError : PySem.W.keepIn K (.ref CLookError) = true) (bLookError : PySem.W.subIn K (.ref CLookError) (.type "BaseException") = some true) (tLookError : PySem.W.typeIn K (.ref CLookError) = some (.type "type")) (iLookError : PySem.W.isClsIn K CLookError = true)
    (sBadReachBadReach : PySem.W.subIn K (.ref CBadReach) (.ref CBadReach) = some true)
    (sTooManyBadReach : PySem.W.subIn K (.ref CTooMany) (.ref CBadReach) = some false)
    (sTooManyTooMany : PySem.W.subIn K (.ref CTooMany) (.ref CTooMany) = some true)
    (zabs : PySem.W.nsIn K mainGlobals "abs" = some none)
    (zint : PySem.W.nsIn K mainGlobals "int" = some none)
    (zlen : PySem.W.nsIn K mainGlobals "len" = some none)
    (zrange : PySem.W.nsIn K mainGlobals "range" = some none)
    (ztuple : PySem.W.nsIn K mainGlobals "tuple" = some none)
    (zisinstance : PySem.W.nsIn K mainGlobals "isinstance" = some none)
    (zbool : PySem.W.nsIn K mainGlobals "bool" = some none)
    (zrepr : PySem.W.nsIn K mainGlobals "repr" = some none)
    (zlist : PySem.W.nsIn K mainGlobals "list" = some none)
    {tkMOST_REACH : Tok} (qMOST_REACH : PySem.W.nsIn K mainGlobals "MOST_REACH" = some (some (.int 4 tkMOST_REACH)))
    {tkMOST_VIEWS : Tok} (qMOST_VIEWS : PySem.W.nsIn K mainGlobals "MOST_VIEWS" = some (some (.int 200000 tkMOST_VIEWS)))
    {tkNO_COLOUR : Tok} (qNO_COLOUR : PySem.W.nsIn K mainGlobals "NO_COLOUR" = some (some (.int 0 tkNO_COLOUR))) :
    ∃ fd : FuncData, (∀ (s : Shared) (v : Value), BindsTo s fd ⟨[v], []⟩ [("script", v)]) ∧ ∀ base : Heap, K.In base → base.Ns mainGlobals mg → FnG l.prog w K mg base 12 fa fd ["script"] (spLaw K) := by
  have e := hfa.symm.trans (PySem.W.mg_of X G a31)
  cases e
  have B : Blt mg := ⟨PySem.W.mg_none_of X G zabs, PySem.W.mg_none_of X G zint, PySem.W.mg_none_of X G zlen, PySem.W.mg_none_of X G zrange, PySem.W.mg_none_of X G ztuple, PySem.W.mg_none_of X G zisinstance, PySem.W.mg_none_of X G zbool, PySem.W.mg_none_of X G zrepr, PySem.W.mg_none_of X G zlist⟩
  have T : Cst mg := ⟨⟨_, PySem.W.mg_of X G qMOST_REACH⟩, ⟨_, PySem.W.mg_of X G qMOST_VIEWS⟩, ⟨_, PySem.W.mg_of X G qNO_COLOUR⟩⟩
  have eBadReach : Err K mg "BadReach" CBadReach := ⟨xBadReach, PySem.W.mg_of X G gBadReach, kBadReach, bBadReach, tBadReach⟩
  have eTooMany : Err K mg "TooMany" CTooMany := ⟨xTooMany, PySem.W.mg_of X G gTooMany, kTooMany, bTooMany, tTooMany⟩
  have eLookError : Err K mg "LookError" CLookError := ⟨xLookError, PySem.W.mg_of X G gLookError, kLookError, bLookError, tLookError⟩
  have hBadReachBadReach := exm_of2 bBadReach iBadReach tBadReach sBadReachBadReach
  have hTooManyBadReach := exm_of2 bBadReach iBadReach tBadReach sTooManyBadReach
  have hTooManyTooMany := exm_of2 bTooMany iTooMany tTooMany sTooManyTooMany
  have dis_number : Def K mg "is_number" sis_number ["value", "low", "high"] := def_mk X G a5 l5 c5 k5 fun _ _ _ _ _ _ us hl => match us, hl with | [_, _, _], _ => rfl
  have dcheck_reach : Def K mg "check_reach" scheck_reach ["reach", "low", "high"] := def_mk X G a6 l6 c6 k6 fun _ _ _ _ _ _ us hl => match us, hl with | [_, _, _], _ => rfl
  have dchoices : Def K mg "choices" schoices ["lists"] := def_mk X G a8 l8 c8 k8 fun _ _ _ _ _ _ us hl => match us, hl with | [_], _ => rfl
  have dall_views : Def K mg "all_views" sall_views ["D", "own", "other", "reach"] := def_mk X G a13 l13 c13 k13 fun _ _ _ _ _ _ us hl => match us, hl with | [_, _, _, _], _ => rfl
  have dall_branches : Def K mg "all_branches" sall_branches ["D", "own", "other", "reach", "colour"] := def_mk X G a14 l14 c14 k14 fun _ _ _ _ _ _ us hl => match us, hl with | [_, _, _, _, _], _ => rfl
  have dcount_views : DefV K mg "count_views" scount_views ["D", "own", "other", "reach", "colour"] [.int 0] := defV_mk X G a15 l15 c15 k15 v15 (by simp) fun _ _ _ _ _ _ _ us its hl hi => match us, hl, its, hi with | [_, _, _, _, _], _, [_], _ => ⟨_, rfl, rfl⟩
  have dcheck_many : DefV K mg "check_many" scheck_many ["D", "own", "other", "reach", "colour"] [.int 0] := defV_mk X G a16 l16 c16 k16 v16 (by simp) fun _ _ _ _ _ _ _ us its hl hi => match us, hl, its, hi with | [_, _, _, _, _], _, [_], _ => ⟨_, rfl, rfl⟩
  have d_branches : Def K mg "_branches" s_branches ["D", "own", "other", "reach", "colour"] := def_mk X G a17 l17 c17 k17 fun _ _ _ _ _ _ us hl => match us, hl with | [_, _, _, _, _], _ => rfl
  have d_law_draws : Def K mg "_law_draws" s_law_draws ["script", "many"] := def_mk X G a19 l19 c19 k19 fun _ _ _ _ _ _ us hl => match us, hl with | [_, _], _ => rfl
  have d_law_take : Def K mg "_law_take" s_law_take ["hand", "many"] := def_mk X G a20 l20 c20 k20 fun _ _ _ _ _ _ us hl => match us, hl with | [_, _], _ => rfl
  have d_law_choices : Def K mg "_law_choices" s_law_choices ["lists"] := def_mk X G a21 l21 c21 k21 fun _ _ _ _ _ _ us hl => match us, hl with | [_], _ => rfl
  have d_law_branches : Def K mg "_law_branches" s_law_branches ["colours", "own", "other", "reach", "colour"] := def_mk X G a22 l22 c22 k22 fun _ _ _ _ _ _ us hl => match us, hl with | [_, _, _, _, _], _ => rfl
  have d_law_count : Def K mg "_law_count" s_law_count ["colours", "own", "other", "reach", "ways"] := def_mk X G a23 l23 c23 k23 fun _ _ _ _ _ _ us hl => match us, hl with | [_, _, _, _, _], _ => rfl
  have d_law_refusal : Def K mg "_law_refusal" s_law_refusal ["colours", "own", "other", "reach", "colour"] := def_mk X G a24 l24 c24 k24 fun _ _ _ _ _ _ us hl => match us, hl with | [_, _, _, _, _], _ => rfl
  have d_law_views_right : Def K mg "_law_views_right" s_law_views_right ["colours", "own", "other", "reach"] := def_mk X G a25 l25 c25 k25 fun _ _ _ _ _ _ us hl => match us, hl with | [_, _, _, _], _ => rfl
  have d_law_branches_right : Def K mg "_law_branches_right" s_law_branches_right ["colours", "own", "other", "reach", "colour"] := def_mk X G a26 l26 c26 k26 fun _ _ _ _ _ _ us hl => match us, hl with | [_, _, _, _, _], _ => rfl
  have d_law_end : Def K mg "_law_end" s_law_end ["colours", "own", "other", "reach", "colour", "least"] := def_mk X G a27 l27 c27 k27 fun _ _ _ _ _ _ us hl => match us, hl with | [_, _, _, _, _, _], _ => rfl
  have d_law_large : Def K mg "_law_large" s_law_large ["shape"] := def_mk X G a28 l28 c28 k28 fun _ _ _ _ _ _ us hl => match us, hl with | [_], _ => rfl
  have d_law_one : Def K mg "_law_one" s_law_one ["hand"] := def_mk X G a29 l29 c29 k29 fun _ _ _ _ _ _ us hl => match us, hl with | [_], _ => rfl
  have d_law_all : Def K mg "_law_all" s_law_all ["script"] := def_mk X G a30 l30 c30 k30 fun _ _ _ _ _ _ us hl => match us, hl with | [_], _ => rfl
  refine ⟨PySem.W.fnOf "law" "law" (defArgs slaw) (defBody slaw) (defScope slaw) .none kV31 dc31 pm31 an31 cd31 ct31, fun s v => .of_eq rfl, fun base _ _ => ?_⟩
  have gtake : Has l.prog w K mg base CX0 1 "_law_take" ["hand", "many"] (spTake K) := d_law_take.has fun f fd F => ok_take B F
  have gdraws : Has l.prog w K mg base CX0 1 "_law_draws" ["script", "many"] (spDraws K) := d_law_draws.has fun f fd F => ok_draws B F
  have gnum : Has l.prog w K mg base CX0 1 "is_number" ["value", "low", "high"] (spNumber K) := dis_number.has fun f fd F => ok_number B F
  have gcheck : Has l.prog w K mg base (L2.CX l.prog w) 2 "check_reach" ["reach", "low", "high"] (spCheck K CBadReach) := dcheck_reach.has fun f fd F => ok_check B eBadReach gnum F
  have gcount := has_count (P := l.prog) (w := w) (base := base) B dcount_views 5
  have gmany : Has l.prog w K mg base (L2.CX l.prog w) 7 "check_many" ["D", "own", "other", "reach", "colour"] (spMany K CTooMany) := dcheck_many.has fun f fd F => ok_many T eTooMany gcount F
  have gch : Has l.prog w K mg base CX0 1 "_law_choices" ["lists"] (spChoices K) := d_law_choices.has fun f fd F => ok_choices F
  have gchp : Has l.prog w K mg base CX0 1 "choices" ["lists"] (spChoices K) := dchoices.has fun f fd F => ok_choicesP F
  have gbr := has_br (P := l.prog) (w := w) (base := base) B d_branches gchp 5
  have gviews : Has l.prog w K mg base (L2.CX l.prog w) 8 "all_views" ["D", "own", "other", "reach"] (spViews K CBadReach CTooMany) := dall_views.has fun f fd F => ok_views T gcheck gmany gbr F
  have gallbr : Has l.prog w K mg base (L2.CX l.prog w) 8 "all_branches" ["D", "own", "other", "reach", "colour"] (spBranches K CBadReach CTooMany) := dall_branches.has fun f fd F => ok_allbr T gcheck gmany gbr F
  have glbr := has_lbr (P := l.prog) (w := w) (base := base) B d_law_branches gch 5
  have glcount := has_lcount (P := l.prog) (w := w) (base := base) B d_law_count 5
  have gref : Has l.prog w K mg base CX0 9 "_law_refusal" ["colours", "own", "other", "reach", "colour"] (spRefusal K) := d_law_refusal.has fun f fd F => ok_refusal eBadReach eTooMany hBadReachBadReach hTooManyBadReach hTooManyTooMany gviews gallbr F
  have gend := has_end (P := l.prog) (w := w) (base := base) B d_law_end 5
  have grv : HasG l.prog w K mg base 9 "_law_views_right" ["colours", "own", "other", "reach"] (spRightV K) := d_law_views_right.hasG fun f fd F => ok_rightv B glbr gviews F
  have grb : HasG l.prog w K mg base 9 "_law_branches_right" ["colours", "own", "other", "reach", "colour"] (spRightB K) := d_law_branches_right.hasG fun f fd F => ok_rightb B glbr gallbr F
  have glarge : HasG l.prog w K mg base 9 "_law_large" ["shape"] (spLarge K) := d_law_large.hasG fun f fd F => ok_large B gend gviews F
  have gone : HasG l.prog w K mg base 10 "_law_one" ["hand"] (spOne K) := d_law_one.hasG fun f fd F => ok_one B eTooMany hTooManyTooMany gtake glcount gref grv grb gviews F
  have gall : HasG l.prog w K mg base 11 "_law_all" ["script"] (spLaw K) := d_law_all.hasG fun f fd F => ok_all B gdraws gtake gone glarge grv grb F
  exact ok_law B eLookError gall (fun_mk l31 c31 k31)
end Lw
open PySem PySem.W PyProof.Rows
set_option maxRecDepth 100000 in
set_option maxHeartbeats 0 in
theorem PySem.Challenge.cw_looksfar_k04_all_views_holds : PySem.Challenge.rw_looksfar_k04_all_views.Holds := by
  w_on; o_law; k_head; (case hw => w_witness2)
  k_fill
  refine LG.walk_G (l := PySem.Challenge.rw_looksfar_k04_all_views) (n := 63) (k := 12) (sp := Lw.spLaw) (x := "script") rfl (by decide) rfl ⟨rfl, by decide, by decide⟩ (fun w h Y => PySem.W.kIn_of Y) ?F (fun K H a ns hl _ hS => ⟨a, ns, rfl, hS, hl, fun _ => rfl⟩)
  case F =>
    intro w mg fa h KX G hmg
    refine' Lw.all_mk KX G hmg ?a5 ?l5 ?c5 ?k5 ?a6 ?l6 ?c6 ?k6 ?a8 ?l8 ?c8 ?k8 ?a13 ?l13 ?c13 ?k13 ?a14 ?l14 ?c14 ?k14 ?a15 ?l15 ?c15 ?k15 ?v15 ?a16 ?l16 ?c16 ?k16 ?v16 ?a17 ?l17 ?c17 ?k17 ?a19 ?l19 ?c19 ?k19 ?a20 ?l20 ?c20 ?k20 ?a21 ?l21 ?c21 ?k21 ?a22 ?l22 ?c22 ?k22 ?a23 ?l23 ?c23 ?k23 ?a24 ?l24 ?c24 ?k24 ?a25 ?l25 ?c25 ?k25 ?a26 ?l26 ?c26 ?k26 ?a27 ?l27 ?c27 ?k27 ?a28 ?l28 ?c28 ?k28 ?a29 ?l29 ?c29 ?k29 ?a30 ?l30 ?c30 ?k30 ?a31 ?l31 ?c31 ?k31 ?gBadReach ?xBadReach ?kBadReach ?bBadReach ?tBadReach ?iBadReach ?gTooMany ?xTooMany ?kTooMany ?bTooMany ?tTooMany ?iTooMany ?gLookError ?xLookError ?kLookError ?bLookError ?tLookError ?iLookError ?sBadReachBadReach ?sTooManyBadReach ?sTooManyTooMany ?zabs ?zint ?zlen ?zrange ?ztuple ?zisinstance ?zbool ?zrepr ?zlist ?qMOST_REACH ?qMOST_VIEWS ?qNO_COLOUR
    (case a5 => k_is)
    (case l5 => k_is)
    (case c5 => k_is)
    (case k5 => k_is)
    (case a6 => k_is)
    (case l6 => k_is)
    (case c6 => k_is)
    (case k6 => k_is)
    (case a8 => k_is)
    (case l8 => k_is)
    (case c8 => k_is)
    (case k8 => k_is)
    (case a13 => k_is)
    (case l13 => k_is)
    (case c13 => k_is)
    (case k13 => k_is)
    (case a14 => k_is)
    (case l14 => k_is)
    (case c14 => k_is)
    (case k14 => k_is)
    (case a15 => k_is)
    (case l15 => k_is)
    (case c15 => k_is)
    (case k15 => k_is)
    (case v15 => exact .inr ⟨by simp, _, _, [_], _, rfl, rfl, rfl, .cons ⟨_, rfl⟩ .nil⟩)
    (case a16 => k_is)
    (case l16 => k_is)
    (case c16 => k_is)
    (case k16 => k_is)
    (case v16 => exact .inr ⟨by simp, _, _, [_], _, rfl, rfl, rfl, .cons ⟨_, rfl⟩ .nil⟩)
    (case a17 => k_is)
    (case l17 => k_is)
    (case c17 => k_is)
    (case k17 => k_is)
    (case a19 => k_is)
    (case l19 => k_is)
    (case c19 => k_is)
    (case k19 => k_is)
    (case a20 => k_is)
    (case l20 => k_is)
    (case c20 => k_is)
    (case k20 => k_is)
    (case a21 => k_is)
    (case l21 => k_is)
    (case c21 => k_is)
    (case k21 => k_is)
    (case a22 => k_is)
    (case l22 => k_is)
    (case c22 => k_is)
    (case k22 => k_is)
    (case a23 => k_is)
    (case l23 => k_is)
    (case c23 => k_is)
    (case k23 => k_is)
    (case a24 => k_is)
    (case l24 => k_is)
    (case c24 => k_is)
    (case k24 => k_is)
    (case a25 => k_is)
    (case l25 => k_is)
    (case c25 => k_is)
    (case k25 => k_is)
    (case a26 => k_is)
    (case l26 => k_is)
    (case c26 => k_is)
    (case k26 => k_is)
    (case a27 => k_is)
    (case l27 => k_is)
    (case c27 => k_is)
    (case k27 => k_is)
    (case a28 => k_is)
    (case l28 => k_is)
    (case c28 => k_is)
    (case k28 => k_is)
    (case a29 => k_is)
    (case l29 => k_is)
    (case c29 => k_is)
    (case k29 => k_is)
    (case a30 => k_is)
    (case l30 => k_is)
    (case c30 => k_is)
    (case k30 => k_is)
    (case a31 => k_is)
    (case l31 => k_is)
    (case c31 => k_is)
    (case k31 => k_is)
    (case gBadReach => k_is)
    (case xBadReach => k_exc)
    (case kBadReach => k_is)
    (case bBadReach => k_is)
    (case tBadReach => k_is)
    (case iBadReach => k_is)
    (case gTooMany => k_is)
    (case xTooMany => k_exc)
    (case kTooMany => k_is)
    (case bTooMany => k_is)
    (case tTooMany => k_is)
    (case iTooMany => k_is)
    (case gLookError => k_is)
    (case xLookError => k_exc)
    (case kLookError => k_is)
    (case bLookError => k_is)
    (case tLookError => k_is)
    (case iLookError => k_is)
    (case sBadReachBadReach => first | rfl | k_is)
    (case sTooManyBadReach => first | rfl | k_is)
    (case sTooManyTooMany => first | rfl | k_is)
    (case zabs => k_is)
    (case zint => k_is)
    (case zlen => k_is)
    (case zrange => k_is)
    (case ztuple => k_is)
    (case zisinstance => k_is)
    (case zbool => k_is)
    (case zrepr => k_is)
    (case zlist => k_is)
    (case qMOST_REACH => k_is)
    (case qMOST_VIEWS => k_is)
    (case qNO_COLOUR => k_is)
