import PyProof.Rows.All
import Wide.All
import OpenK.AllK
import Wide.FinOn
import KE.SortKeyHeap
import HandS.ForMost
import HandS.SortKw
import HandS.Evl
import HandS.Deep
import HandS.IsInst
import HandS.DictComp
import HandS.Codes
import HandS.Conv
import HandS.Style
import HandS.Text
import HandS.Steps
import HandS.Defaults
import HandS.TupSets
import HandS.Zip
import HandS.Strs
import PySem.Challenge.RW_anyscribe_k14_ways_refused
import KE.KLam
import HandS.Nested
import HandS.NestedK
import HandS.ForExc
import HandS.ExcInit
import HandS.ExcSuper
import HandS.FStr
import KE.KExcSuper
import HandS.StrMore
import HandS.TryMany
import KE.GoesMore
import KE.KDflt
import KE.OsArith
import HandS.WideBits
import HandS.Dict
import HandS.MapJoin
import PyProof.EnumMake
import KE.GoesEnum
import KE.Datum
import HandS.ExcField
import KE.KIsAll
import PyProof.StrBlock2
import HandS.TupMul
import HandS.TupLe
import KE.KUnpackStar
import HandS.Head0
import HandS.Head1
import HandS.Head2
import HandS.HeadEnd
import HandS.HeadHook1
import HandS.HeadHook2
import HandS.HeadHook3
import HandS.HeadHook4
import HandS.HeadWalk
set_option Elab.async false
set_option linter.all false
set_option maxRecDepth 100000
set_option maxHeartbeats 4000000
set_option autoImplicit true
/-! sorted(xs, key=f), f a def of the program whose promise is pure. -/
namespace AsSort
open PySem PySem.Spec PyProof.Rows L2
open Evl (Ex)
abbrev EachIs' {α β : Type} := @PySem.W.EachIs α β

section
variable {X : Cx} {pins : List (Addr × Obj)} {σ : L2.St} {H : Hp} {s : Shared}

/-- f gives the i-th item its i-th key, from wherever it is called two calls deeper -/
def Keys (X : Cx) (f : Value) (H : Hp) (xs : List V) (kz : List PyData) : Prop :=
  ∀ (pins : List (Addr × Obj)) (σ : L2.St) (G : Hp) (z : Shared) (i : Nat) (x : V) (u : Value) (d : PyData), Inv X pins σ G z → Ex H G → xs[i]? = some x → kz[i]? = some d → RelV x u →
    wpAny (model X.prog X.w) X.A.in1.in1 (call f [u]) (EP X pins σ fun v G' => Ex G G' ∧ Dp X.K G' v d) (fun _ _ => False) z

theorem dpAll_snoc {K : PySem.W.Frag} {G : Hp} {v : V} {d : PyData} (h : Dp K G v d) : ∀ {vs : List V} {ds : List PyData}, DpAll K G vs ds → DpAll K G (vs ++ [v]) (ds ++ [d])
  | [], [], _ => .cons h .nil
  | [], _ :: _, z => nomatch z
  | _ :: _, [], z => nomatch z
  | _ :: _, _ :: _, .cons a b => .cons a (dpAll_snoc h b)

mutual
theorem dp_ex {K : PySem.W.Frag} {G G' : Hp} (e : Ex G G') : ∀ {v : V} {d : PyData}, Dp K G v d → Dp K G' v d
  | _, _, .non => .non
  | _, _, .bl b => .bl b
  | _, _, .int i => .int i
  | _, _, .str x => .str x
  | _, _, .lst a b => .lst (Evl.ex_l e a) (dpAll_ex e b)
  | _, _, .tup a b => .tup (Evl.ex_t e a) (dpAll_ex e b)
theorem dpAll_ex {K : PySem.W.Frag} {G G' : Hp} (e : Ex G G') : ∀ {vs : List V} {ds : List PyData}, DpAll K G vs ds → DpAll K G' vs ds
  | _, _, .nil => .nil
  | _, _, .cons a b => .cons (dp_ex e a) (dpAll_ex e b)
end


mutual
/-- data that cannot change: no list, no dict -/
def imm : PyData → Bool
  | .none => true
  | .bool _ => true
  | .int _ => true
  | .str _ => true
  | .tuple ds => immAll ds
  | .list _ => false
  | .dict _ => false
def immAll : List PyData → Bool
  | [] => true
  | d :: ds => imm d && immAll ds
end
theorem immAll_cons {d : PyData} {ds : List PyData} (h : immAll (d :: ds) = true) : imm d = true ∧ immAll ds = true := by
  have q : (imm d && immAll ds) = true := h
  exact Bool.and_eq_true_iff.mp q
/-- tuples stay -/
def Tu (K : PySem.W.Frag) (G G' : Hp) : Prop := ∀ a xs, SqT K G a xs → SqT K G' a xs
theorem tu_ex {K : PySem.W.Frag} {G G' : Hp} (e : Ex G G') : Tu K G G' := fun _ _ h => Evl.ex_t e h
theorem Tu.trans {K : PySem.W.Frag} {G G' G'' : Hp} (a : Tu K G G') (b : Tu K G' G'') : Tu K G G'' := fun x xs h => b x xs (a x xs h)
theorem tu_rd {K : PySem.W.Frag} {G G' : Hp} (h : ∀ a xs, Rd G a (.tup xs) → Rd G' a (.tup xs)) : Tu K G G' := fun a xs q => q.elim (fun z => .inl (h a xs z)) fun z => .inr z
/-- a list written -/
theorem tu_lst {K : PySem.W.Frag} {G : Hp} {p : Addr} {ys : List V} {o : HO} (h : G p = some (.lst ys)) : Tu K G (upd G p o) := tu_rd fun a xs q => by
  have ne : ∀ u, G a = some u → (∀ zs, u ≠ .lst zs) → a ≠ p := fun u e n z => by
    rw [z, h] at e
    exact n ys (Option.some.inj e).symm
  rcases q with q | ⟨w, q⟩
  · exact .inl (by rw [upd_ne (ne _ q fun _ z => nomatch z)]; exact q)
  · exact .inr ⟨w, by rw [upd_ne (ne _ q fun _ z => nomatch z)]; exact q⟩
mutual
theorem dp_tu {K : PySem.W.Frag} {G G' : Hp} (e : Tu K G G') : ∀ {v : V} {d : PyData}, imm d = true → Dp K G v d → Dp K G' v d
  | _, _, _, .non => .non
  | _, _, _, .bl b => .bl b
  | _, _, _, .int i => .int i
  | _, _, _, .str x => .str x
  | _, _, h, .lst _ _ => nomatch h
  | _, _, h, .tup a b => .tup (e _ _ a) (dpAll_tu e (by simpa [imm] using h) b)
theorem dpAll_tu {K : PySem.W.Frag} {G G' : Hp} (e : Tu K G G') : ∀ {vs : List V} {ds : List PyData}, immAll ds = true → DpAll K G vs ds → DpAll K G' vs ds
  | _, _, _, .nil => .nil
  | _, _, h, .cons a b => by
    have h2 := immAll_cons h
    exact .cons (dp_tu e h2.1 a) (dpAll_tu e h2.2 b)
end
theorem immAll_take : ∀ (ds : List PyData) (i : Nat), immAll ds = true → immAll (ds.take i) = true
  | _, 0, _ => rfl
  | [], _ + 1, _ => rfl
  | d :: ds, i + 1, h => by
    have h2 := immAll_cons h
    show (imm d && immAll (ds.take i)) = true
    rw [h2.1, immAll_take ds i h2.2]
    rfl
theorem immAll_get : ∀ {ds : List PyData} {i : Nat} {d : PyData}, immAll ds = true → ds[i]? = some d → imm d = true
  | [], _, _, _, e => by simp at e
  | _ :: _, 0, _, h, e => by
    have h2 := immAll_cons h
    have e2 := Option.some.inj e
    rw [← e2]
    exact h2.1
  | _ :: ds, i + 1, _, h, e => by
    have h2 := immAll_cons h
    exact immAll_get (ds := ds) (i := i) h2.2 (by simpa using e)

theorem each_of_reads {h : Heap} : ∀ {us : List Value} {ds : List PyData} {as : List Addr}, ReadsAll h us ds as → PySem.W.EachIs (fun v d => ∃ as, Reads h v d as) us ds
  | _, _, _, .nil => .nil
  | _, _, _, .cons a b => .cons ⟨_, a⟩ (each_of_reads b)
theorem each_vals : ∀ {xs : List V} {us : List Value} {kz : List PyData}, Vals xs us → kz.length = xs.length → PySem.W.EachIs (fun (u : Value) (p : V × PyData) => RelV p.1 u) us (xs.zip kz)
  | _, _, [], .nil, _ => .nil
  | _, _, _ :: _, .nil, h => by simp at h
  | _, _, [], .cons _ _, h => by simp at h
  | _, _, _ :: kz, .cons r t, h => .cons r (each_vals (kz := kz) t (by simpa using h))
theorem vals_each : ∀ {us : List Value} {ps : List (V × PyData)}, PySem.W.EachIs (fun (u : Value) (p : V × PyData) => RelV p.1 u) us ps → Vals (ps.map Prod.fst) us
  | _, _, .nil => .nil
  | _, _, .cons r t => .cons r (vals_each t)

/-- the items sorted by their keys -/
def byKey (rev : Bool) (xs : List V) (kz : List PyData) : List V := ((xs.zip kz).mergeSort (PySem.W.dataLe rev Prod.snd)).map Prod.fst

/-- list.sort(key=f) of a list at a that nobody knows; B, the heap ahead, in which a is not -/
theorem tree_run {a : Addr} {xs : List V} {its : List Value} {n : Nat} {f : Value} {rev : Bool} {kz : List PyData} {P : PySem.Fin → Shared → Prop} {E : Value → Shared → Prop} {hp : Heap}
    (I : Inv X pins σ H s) (fp : FpOk X pins H a) (ho : hp.get? a = some (seqObj "list" its.toArray n)) (old : ∀ b o, s.heap.get? b = some o → b ≠ a ∧ hp.get? b = some o) (r : Vals xs its) (hz : xs.length ≤ sizeLine)
    (hk : Keys X f H xs kz) (hl : kz.length = xs.length) (him : immAll kz = true) (hal : PySem.W.AllAlike kz) (hs : PySem.W.Sortable kz) (hu : ∀ d, d ∈ kz → X.A.in1.in1.units + d.depth < cLine)
    (q : ∀ s' G, Inv X pins σ G s' → Ex (upd H a (.lst (byKey rev xs kz))) G → s'.os = s.os → P (.done (.ret .none)) s') :
    wpAny (model X.prog X.w) X.A.in1.in1 (ksk_tree a f rev) P E { s with heap := hp } := by
  have hlen : its.length = xs.length := r.length.symm
  have hzi : its.length ≤ sizeLine := by omega
  obtain ⟨e1, ho1⟩ : ∃ e1, (hp.update a (Obj.mapSeq fun _ => (#[] : Array Value))).get? a = some (seqObj "list" #[] e1) := ⟨_, get?_update_seq ho fun _ => #[]⟩
  obtain ⟨hA, ehA⟩ : ∃ hA, hA = hp.update a (Obj.mapSeq fun _ => (#[] : Array Value)) := ⟨_, rfl⟩
  rw [← ehA] at ho1
  have oldA : ∀ b o, s.heap.get? b = some o → b ≠ a ∧ hA.get? b = some o := fun b o e => by
    obtain ⟨h1, h2⟩ := old b o e
    exact ⟨h1, by rw [ehA]; exact (Heap.get?_update_ne _ _ _ _ h1).trans h2⟩
  unfold ksk_tree
  refine wpAny_bind (listItems_at ho rfl ?_)
  refine wpAny_bind (listUpdate_at ho rfl ?_ (by rw [List.size_toArray]; exact hzi) (Nat.zero_le _))
  rw [← ehA]
  refine wpAny_bind (seqEpoch_at ho1 rfl ?_)
  refine wpAny_bind (wpAny_newTuple ?_ (by show its.length ≤ _; exact hzi))
  refine wpAny_bind (wpAny_newList ?_ (Nat.zero_le _))
  refine wpAny_holding ?_
  obtain ⟨hB, ehB⟩ : ∃ hB, hB = hA.push (seqObj "tuple" its.toArray 0) := ⟨_, rfl⟩
  have oldB : ∀ b o, s.heap.get? b = some o → hB.get? b = some o := fun b o e => by
    rw [ehB]
    exact Heap.get?_push_of_some _ (oldA b o e).2
  have hoB : hB.get? a = some (seqObj "list" #[] e1) := by
    rw [ehB]
    exact Heap.get?_push_of_some _ ho1
  have hBz : hB.objs.size = hA.objs.size + 1 := by rw [ehB, size_push']
  have ha : a < hB.objs.size := Heap.lt_size hoB
  -- the store of keys stands at kS
  obtain ⟨kS, ekS⟩ : ∃ kS, kS = hB.objs.size := ⟨_, rfl⟩
  have IB : Inv X pins σ H { s with heap := hB } := I.kept oldB
  have nkS : H kS = none := IB.hok.fresh (by rw [ekS]; exact Nat.le_refl _)
  have hka : kS ≠ a := by rw [ekS]; exact Nat.ne_of_gt ha
  have fpS : FpOk X pins H kS := IB.fpOk (by rw [ekS]; exact Nat.le_refl _) nkS
  have IC : Inv X pins σ (upd H kS (.lst [])) { s with heap := hB.push (seqObj "list" #[] 0) } :=
    IB.laid (a := kS) (o := .lst []) (t' := s.toks) (fun b o e => Heap.get?_push_of_some _ e) (by rw [ekS]; exact Nat.le_refl _) ⟨Nat.zero_le _, [], 0, .nil, by rw [ekS]; exact Heap.get?_push_size _ rfl⟩
  have pin1 : ∀ p ∈ pins ++ [(a, (seqObj "list" #[] e1 : Obj))], (hB.push (seqObj "list" #[] 0)).get? p.1 = some p.2 ∧ (upd H kS (.lst [])) p.1 = none ∧ p.1 ≠ X.env.locals ∧ p.1 ∉ X.fs ∧ ∀ v, p.2.data ≠ .cell v := fun p hpm => by
    rcases List.mem_append.mp hpm with z | z
    · exact IC.pin p (List.mem_append_right _ z)
    · rw [List.mem_singleton.mp z]
      refine ⟨Heap.get?_push_of_some _ hoB, ?_, fp.2.1, fp.2.2.1, fun v e => nomatch e⟩
      rw [upd_ne hka.symm]
      exact fp.1
  have ID := IC.pins_of pin1
  rw [ehB] at ID ekS
  rw [← ekS]
  show wpAny (model X.prog X.w) X.A.in1.in1 (ksk_rest a f rev its.toArray e1 (.ref kS)) P E { s with heap := (hA.push (seqObj "tuple" its.toArray 0)).push (seqObj "list" #[] 0) }
  obtain ⟨z0, ez0⟩ : ∃ z0 : Shared, z0 = { s with heap := (hA.push (seqObj "tuple" its.toArray 0)).push (seqObj "list" #[] 0) } := ⟨_, rfl⟩
  rw [← ez0] at ID ⊢
  unfold ksk_rest
  refine wpAny_bind (wpAny_rule ?_)
  first
    | rw [List.forIn_toArray]
    | (rw [← Array.forIn_toList]; simp only [List.toList_toArray])
    | rw [← Array.forIn_toList]
  refine wpAny_bind (ksk_fold (fun i z => ∃ G ks, Inv X (pins ++ [(a, (seqObj "list" #[] e1 : Obj))]) σ G z ∧ Ex H G ∧ G kS = some (.lst ks) ∧ DpAll X.K G ks (kz.take i) ∧ ks.length = i) its 0 z0
    ⟨_, [], ID, Ex.new nkS, upd_same, by rw [List.take_zero]; exact .nil, rfl⟩ ?step ?done)
  case step =>
    rintro j u z hu1 ⟨G, ks, J, eG, hG, hd, hkl⟩
    simp only [Nat.zero_add] at hd hkl ⊢
    have hj : j < its.length := (List.getElem?_eq_some_iff.mp hu1).1
    have hjx : j < xs.length := by omega
    obtain ⟨d, hdj⟩ : ∃ d, kz[j]? = some d := ⟨_, List.getElem?_eq_getElem (by omega)⟩
    have hx : xs[j]? = some xs[j] := List.getElem?_eq_getElem hjx
    obtain ⟨u', hu', ru⟩ := r.get hx
    rw [hu1] at hu'
    cases hu'
    refine wpAny_bind (wpAny_attempt (wpAny_mono (hk _ _ G z j _ u d J eG hx hdj ru) (fun v z' he => ?_) fun _ _ hF => hF.elim))
    obtain ⟨w', G', J', rw', e', hw⟩ := he
    try dsimp only
    have hG' : G' kS = some (.lst ks) := e' _ _ hG
    obtain ⟨kvs, m, rk, ok, lk⟩ := J'.lst hG'
    have hks : kvs.length = ks.length := rk.length.symm
    refine wpAny_bind (listUpdate_at ok rfl ?_ (by rw [List.size_toArray]; omega) (by rw [Array.size_push, List.size_toArray]; omega))
    refine wpAny_pure ⟨rfl, upd G' kS (.lst (ks ++ [w'])), ks ++ [w'], ?_, ?_, upd_same, ?_, ?_⟩
    · exact J'.lset (t' := z'.toks) (its := kvs) (its' := kvs ++ [v]) hG' ok (by simp) (rk.append (.cons rw' .nil)) (by rw [List.length_append, List.length_singleton]; omega)
    · exact Ex.mut (eG.trans e') nkS
    · have ek : kz.take (j + 1) = kz.take j ++ [d] := by rw [List.take_add_one, hdj]; simp
      rw [ek]
      exact dpAll_snoc (dp_tu (tu_lst hG') (immAll_get him hdj) hw) (dpAll_tu (tu_lst hG') (immAll_take kz j him) (dpAll_ex e' hd))
    · rw [List.length_append, List.length_singleton, hkl]
  case done =>
    rintro z ⟨G, ks, J, eG, hG, hd, hkl⟩
    have hd' : DpAll X.K G ks kz := by
      have e3 : kz.take (0 + its.length) = kz := List.take_of_length_le (by omega)
      rw [e3] at hd
      exact hd
    obtain ⟨kvs, m, rk, ok, lk⟩ := J.lst hG
    have hks : kvs.length = ks.length := rk.length.symm
    obtain ⟨as, hr⟩ := Dp.readsAll J kz ks kvs hd' rk
    have hea := each_of_reads hr
    have oa : z.heap.get? a = some (seqObj "list" #[] e1) := (J.pin (a, (seqObj "list" #[] e1 : Obj)) (List.mem_append_right _ (List.mem_append_right _ (List.mem_singleton.mpr rfl)))).1
    have na : G a = none := (J.pin (a, (seqObj "list" #[] e1 : Obj)) (List.mem_append_right _ (List.mem_append_right _ (List.mem_singleton.mpr rfl)))).2.1
    refine wpAny_bind (listItems_at ok rfl ?_)
    refine PySem.W.keyH_end (κ := PySem.W.dataKind z.heap kz) (h₁ := PySem.W.hideAll z.heap [kS]) (fun b o _ e => PySem.W.of_hideAll [kS] e) (PySem.W.hideAll_none [kS] (List.mem_singleton.mpr rfl)) ok oa hka
      (PySem.W.SortsAt.data hea hal hs hu) (by rw [List.size_toArray]; omega) hzi fun h' tk c kb oh => ?_
    have ko : PySem.W.KeyedOut rev ((xs.zip kz).map Prod.snd) its (PySem.W.sortVals (PySem.W.dataKind z.heap kz) rev kvs.toArray.toList its) := by
      have e4 : (xs.zip kz).map Prod.snd = kz := List.map_snd_zip (by omega)
      rw [e4]
      exact ⟨z.heap, kvs, hal, rfl, hea⟩
    have vo := vals_each (PySem.W.keyedOut_each Prod.snd ko (each_vals r hl))
    have kb2 : ∀ b o, b ≠ a → b ≠ kS → z.heap.get? b = some o → h'.get? b = some o := fun b o h1 h2 e => kb b o h1 (PySem.W.hideAll_get [kS] e fun q => h2 (List.mem_singleton.mp q))
    have J2 : Inv X pins σ G z := J.unpinned
    have hyl : (byKey rev xs kz).length ≤ sizeLine := by
      unfold byKey
      rw [List.length_map, List.length_mergeSort, List.length_zip]
      omega
    have noL : ∀ b u, G b = some u → (∀ zs, u ≠ .lst zs) → b ≠ kS := fun b u e n w => by
      rw [w, hG] at e
      exact n ks (Option.some.inj e).symm
    have noA : ∀ b u, G b = some u → b ≠ a := fun b u e w => by
      rw [w, na] at e
      cases e
    obtain ⟨G2, eG2⟩ : ∃ G2 : Hp, G2 = fun b => if b = kS then none else upd G a (.lst (byKey rev xs kz)) b := ⟨_, rfl⟩
    have gk : G2 kS = none := by rw [eG2]; exact if_pos rfl
    have ga : G2 a = some (.lst (byKey rev xs kz)) := by
      rw [eG2]
      show (if a = kS then none else upd G a (.lst (byKey rev xs kz)) a) = _
      rw [if_neg hka.symm, upd_same]
    have gb : ∀ b, b ≠ kS → b ≠ a → G2 b = G b := fun b h1 h2 => by
      rw [eG2]
      show (if b = kS then none else upd G a (.lst (byKey rev xs kz)) b) = _
      rw [if_neg h1, upd_ne h2]
    have gi : ∀ b u, G2 b = some u → b ≠ kS := fun b u e w => by
      rw [w, gk] at e
      cases e
    obtain ⟨zh, zg, zd, zt, zo⟩ := z
    have ch : ∀ b ∈ [kS, a], (b ∈ X.ex ∨ X.s_0.heap.objs.size ≤ b) ∧ b ≠ X.env.locals ∧ (∀ x c, X.env.cells.lookup x = some c → c ≠ b) ∧ ∀ p ∈ X.pn ++ pins, p.1 ≠ b := fun b hb => by
      rcases List.mem_cons.mp hb with e | hb
      · rw [e]; exact ⟨fpS.2.2.2.1, fpS.2.1, fpS.2.2.2.2.1, fpS.2.2.2.2.2⟩
      · rw [List.mem_singleton.mp hb]; exact ⟨fp.2.2.2.1, fp.2.1, fp.2.2.2.2.1, fp.2.2.2.2.2⟩
    have nc : ∀ b, b ∉ [kS, a] → b ≠ a ∧ b ≠ kS := fun b h => ⟨fun e => h (by simp [e]), fun e => h (by simp [e])⟩
    have fin : Inv X pins σ G2 ⟨h', zg, zd, tk, zo⟩ := J2.step (h' := h') (H' := G2) (g' := zg) (d' := zd) (t' := tk) (ch := [kS, a]) ch
      (fun b o _ _ hc e _ => kb2 b o (nc b hc).1 (nc b hc).2 e) (fun b o _ _ hc e _ => ⟨o.slots, kb2 b o (nc b hc).1 (nc b hc).2 e⟩) (fun b o hc _ n => by rw [gb b (nc b hc).2 (nc b hc).1]; exact n)
      (fun b o hc e => ⟨o, kb2 b o (nc b hc).1 (nc b hc).2 e⟩) (fun b zs e => by rw [gb b (noL b _ e fun _ w => nomatch w) (noA b _ e)]; exact e) (fun b o u e => by rw [gb b (noL b _ e fun _ w => nomatch w) (noA b _ e)]; exact e)
      (fun b ps e => ⟨#[], by rw [gb b (noL b _ e fun _ w => nomatch w) (noA b _ e), e]; simp⟩) (fun mm hm => by
        obtain ⟨o, es, ep, ho', r'⟩ := hm
        exact ⟨o, es, ep, kb2 _ o fp.2.1.symm fpS.2.1.symm ho', r'⟩)
      (fun b u e => by
        by_cases hb : b = a
        · rw [hb, ga] at e
          cases e
          rw [hb]
          exact ⟨hyl, _, c, vo, oh⟩
        · have hbk := gi b u e
          rw [gb b hbk hb] at e
          have nk : ∀ c v, G c = some v → (∀ zs, v ≠ .lst zs) → G2 c = some v := fun c v q n => by rw [gb c (noL c v q n) (noA c v q)]; exact q
          refine (J2.hok b u e).stay (fun c v hc q => ?_) (fun c q => nk c _ q fun _ w => nomatch w) fun c zs q => nk c _ q fun _ w => nomatch w
          rcases hc with rfl | hc
          · exact kb2 c v hb hbk q
          · exact kb2 c v (noA c _ hc) (noL c _ hc fun _ w => nomatch w) q) J2.bare
    refine q _ G2 fin (fun b o e => ?_) (J2.os.trans I.os.symm)
    by_cases hb : b = a
    · rw [hb, upd_same] at e
      rw [hb, ga]
      exact e
    · rw [upd_ne hb] at e
      rw [gb b (fun w => by rw [w, nkS] at e; cases e) hb]
      exact eG b o e
end

section
variable {prog : Program} {w : World} {A : Around} {E : Value → Shared → Prop} {s : Shared}
/-- a list or a tuple, laid out as a new list -/
theorem collect_sq {l : Addr} {vs : List Value} {T : String} {o : Obj} {n : Nat} {Q : List Value → Shared → Prop} (ho : s.heap.get? l = some o) (hc : o.cls = .type T) (hT : T = "list" ∨ T = "tuple") (hd : o.data = .seq vs.toArray n) (hsz : vs.length ≤ sizeLine)
    (h : Q vs { s with heap := (s.heap.push (seqObj "list" #[] 0)).update s.heap.objs.size (Obj.mapSeq (· ++ vs.toArray)) }) : wpAny (model prog w) A (collect (.ref l)) Q E s := by
  unfold collect
  refine wpAny_bind (wpAny_runValue (codeAny_builtin entry_proto_collect' ?_))
  show wpAny _ _ (do again (.builtin "list.__iadd__" ⟨[← newList [], .ref l], []⟩)) _ _ s
  refine wpAny_bind (wpAny_newList (wpAny_pure ⟨Code.quiet_builtin _ (by decide +kernel), codeAny_builtin entry_list_iadd' ?_⟩))
  have fresh : (s.heap.push (seqObj "list" #[] 0)).get? s.heap.objs.size = some (seqObj "list" #[] 0) := Heap.get?_push_size _ rfl
  have ho' : (s.heap.push (seqObj "list" #[] 0)).get? l = some o := Heap.get?_push_of_some _ ho
  show wpAny _ _ (Builtin.List.listExtendWith (.ref s.heap.objs.size) (.ref l) (.ref s.heap.objs.size)) _ _ { s with heap := s.heap.push (seqObj "list" #[] 0) }
  unfold Builtin.List.listExtendWith
  refine wpAny_bind (wpAny_typeOf (T := T) ⟨o, ho', hc⟩ ?_)
  have hb : (Builtin.List.listSameRef (.ref s.heap.objs.size) (.ref l) || Value.type T == Value.type "list" || Value.type T == Value.type "tuple") = true := by
    rcases hT with e | e <;> rw [e]
    · rw [show (Value.type "list" == Value.type "list") = true from rfl, Bool.or_true, Bool.true_or]
    · rw [show (Value.type "tuple" == Value.type "tuple") = true from rfl, Bool.or_true]
  rw [if_pos hb]
  refine wpAny_bind (listItems_at ho' hd ?_)
  refine wpAny_bind (listItems_at fresh rfl ?_)
  rw [if_neg (by simp)]
  refine wpAny_bind (listUpdate_at fresh rfl ?_ (Nat.zero_le _) (by show (#[] ++ vs.toArray).size ≤ sizeLine + 1; simp only [Array.size_append, List.size_toArray, List.length_nil]; omega))
  refine wpAny_pure ?_
  show wpAny (model prog w) A (load s.heap.objs.size >>= _) Q E _
  refine wpAny_bind (wpAny_load (get?_update_seq fresh _) ?_)
  show wpAny _ _ (pure ((#[] : Array Value) ++ vs.toArray).toList) Q E _
  rw [show ((#[] : Array Value) ++ vs.toArray).toList = vs by simp]
  exact wpAny_pure h
/-- sorted of either is list.sort of a new list -/
theorem sorted_sq {l : Addr} {vs : List Value} {T : String} {o : Obj} {n : Nat} {kw : List (Str × Value)} {Q : Value → Shared → Prop} (ho : s.heap.get? l = some o) (hc : o.cls = .type T) (hT : T = "list" ∨ T = "tuple") (hd : o.data = .seq vs.toArray n) (hsz : vs.length ≤ sizeLine)
    (ha1 : argsOk "sorted" ⟨[.ref l], kw⟩) (ha2 : ∀ x, argsOk "list.sort" ⟨[.ref x], kw⟩)
    (body : ∀ E' : Value → Shared → Prop, wpAny (model prog w) A.in1.in1 (Builtin.«list.sort» ⟨[.ref (s.heap.objs.size + 1)], kw⟩) (fun f s' => f = .done (.ret .none) ∧ Q (.ref (s.heap.objs.size + 1)) s') E' { s with heap := PySem.W.copyHeap s.heap vs }) :
    wpAny (model prog w) A (call (.builtin "sorted") [.ref l] kw) Q E s := by
  refine call_function_entry_kw kind_sorted plain_sorted entry_sorted ha1 ?_
  unfold Builtin.«sorted»
  refine wpAny_bind (m := checkCount "sorted" 1 1 _) (wpAny_pure (wpAny_bind (collect_sq ho hc hT hd hsz (wpAny_bind (wpAny_newList ?_ hsz)))))
  have e1 : ((s.heap.push (seqObj "list" #[] 0)).update s.heap.objs.size (Obj.mapSeq (· ++ vs.toArray))).objs.size = s.heap.objs.size + 1 := by rw [Heap.size_update, size_push']
  rw [e1]
  refine wpAny_bind (wpAny_holding (wpAny_call_entry_kw slot_list_sort ⟨_, PySem.W.copyHeap_at s.heap vs, rfl⟩ entry_list_sort (wpAny_mono (body _) (fun f s' hf => ?_) fun _ _ e => e) (ha2 _)))
  obtain ⟨rfl, hq⟩ := hf
  exact ⟨_, rfl, wpAny_pure ⟨_, rfl, hq⟩⟩
end

section
variable {X : Cx}
/-- sorted(xs, ..) by keys -/
theorem sorted_run {pins : List (Addr × Obj)} {σ : L2.St} {H : Hp} {s : Shared} {l : Addr} {xs : List V} {f : Value} {rev : Bool} {kz : List PyData} {kw : List (Str × Value)} {Q : VK} (I : Inv X pins σ H s)
    (hs : SqL X.K H l xs ∨ SqT X.K H l xs) (hk : Keys X f H xs kz) (hl : kz.length = xs.length) (him : immAll kz = true) (hal : PySem.W.AllAlike kz) (hso : PySem.W.Sortable kz) (hu : ∀ d, d ∈ kz → X.A.in1.in1.units + d.depth < cLine)
    (ha1 : argsOk "sorted" ⟨[.ref l], kw⟩) (ha2 : ∀ x, argsOk "list.sort" ⟨[.ref x], kw⟩) (ht : ∀ x, Builtin.«list.sort» ⟨[.ref x], kw⟩ = ksk_tree x f rev)
    (q : ∀ p G, H p = none → Ex (upd H p (.lst (byKey rev xs kz))) G → Q (.ref p) G) : wpAny (model X.prog X.w) X.A (call (.builtin "sorted") [.ref l] kw) (EP X pins σ Q) X.xe s := by
  have go : ∀ (vs : List Value) (T : String) (o : Obj) (n : Nat), Vals xs vs → s.heap.get? l = some o → o.cls = .type T → (T = "list" ∨ T = "tuple") → o.data = .seq vs.toArray n → xs.length ≤ sizeLine →
      wpAny (model X.prog X.w) X.A (call (.builtin "sorted") [.ref l] kw) (EP X pins σ Q) X.xe s := fun vs T o n r ho hc hT hd hz => by
    refine sorted_sq ho hc hT hd (by rw [← r.length]; exact hz) ha1 ha2 fun E' => ?_
    rw [ht]
    have nH : H (s.heap.objs.size + 1) = none := I.hok.fresh (Nat.le_succ _)
    refine tree_run I (I.fpOk (Nat.le_succ _) nH) (PySem.W.copyHeap_at s.heap vs) (fun b o e => ⟨Nat.ne_of_lt (Nat.lt_succ_of_lt (Heap.lt_size e)), PySem.W.copyHeap_old e⟩) r hz hk hl him hal hso hu fun s' G J e _ => ⟨rfl, ?_⟩
    exact ⟨.ref _, G, J, rfl, q _ G nH e⟩
  rcases hs with hs | hs
  · obtain ⟨its, rv, ⟨o, n, ho, hc, _, hd⟩, hz⟩ := I.list hs
    exact go its "list" o n rv ho hc (.inl rfl) hd hz
  · obtain ⟨its, rv, ⟨o, ho, hc, n, hd⟩, hz⟩ := I.tuple hs
    exact go its "tuple" o n rv ho hc (.inr rfl) hd hz

/-- a pure promise: data in, data out, nothing that was known changes -/
def spP (K : PySem.W.Frag) (pre : List PyData → Prop) (g : List PyData → PyData) : Sp := fun vs H Q _ => ∃ ds, DpAll K H vs ds ∧ pre ds ∧ ∀ v H', Ex H H' → Dp K H' v (g ds) → Q v H'

theorem dpAll_get {K : PySem.W.Frag} {G : Hp} : ∀ {vs : List V} {ds : List PyData} {i : Nat} {v : V} {d : PyData}, DpAll K G vs ds → vs[i]? = some v → ds[i]? = some d → Dp K G v d
  | _, _, _, _, _, .nil, h, _ => by simp at h
  | _, _, 0, _, _, .cons a _, h, h2 => by
    have e1 := Option.some.inj h
    have e2 := Option.some.inj h2
    rw [← e1, ← e2]
    exact a
  | _, _, i + 1, _, _, .cons _ b, h, h2 => dpAll_get (i := i) b (by simpa using h) (by simpa using h2)
theorem dpAll_len {K : PySem.W.Frag} {G : Hp} : ∀ {vs : List V} {ds : List PyData}, DpAll K G vs ds → vs.length = ds.length
  | _, _, .nil => rfl
  | _, _, .cons _ b => congrArg Nat.succ (dpAll_len b)

theorem keys_of {k : Nat} {f : Addr} {fd : FuncData} {x : Str} {pre : List PyData → Prop} {g : List PyData → PyData} {H : Hp} {xs : List V} {ds : List PyData} (F : FnOk X.prog X.w X.K X.mg X.base CX0 k f fd [x] (spP X.K pre g)) (hr : Room (k + 2) X.A)
    (hb : Binds X.K fd [x] []) (hd : DpAll X.K H xs ds) (hp : ∀ d ∈ ds, pre [d]) : Keys X (.ref f) H xs (ds.map fun d => g [d]) := by
  intro pins σ G z i v u d I e hx hk ru
  rw [List.getElem?_map] at hk
  cases hi : ds[i]? with
  | none => rw [hi] at hk; cases hk
  | some d0 =>
    rw [hi] at hk
    have ed : g [d0] = d := Option.some.inj hk
    have hv : Dp X.K G v d0 := dp_ex e (dpAll_get hd hx hi)
    have E0' : Env0 X.prog X.w X.K X.mg X.base X.A.in1.in1 X.stack z G := I.env0.in1.in1
    refine wpAny_call (codeAny_mono (F.run X.A.in1.in1 X.stack z G ⟨[u], []⟩ [u] [v] (fun v G' => Ex G G' ∧ Dp X.K G' v d) E0 hr.in1.in1 E0' (hb z [u] I.kIn rfl) (.cons ru .nil) ⟨[d0], .cons hv .nil, hp d0 (List.mem_of_getElem? hi), fun w' G' e' h' => ⟨e', by rw [← ed]; exact h'⟩⟩) fun r s' hq => ?_)
    cases r with
    | error e => exact hq.elim
    | ok fl =>
      cases fl with
      | ret u => exact I.after hq
      | next => exact False.elim hq
      | brk => exact False.elim hq
      | cont => exact False.elim hq

/-- the data sorted by their keys -/
theorem byKey_dp {K : PySem.W.Frag} {G : Hp} {rev : Bool} {xs : List V} {ds : List PyData} (g : PyData → PyData) (h : DpAll K G xs ds) : DpAll K G (byKey rev xs (ds.map g)) (ds.mergeSort (PySem.W.dataLe rev g)) := by
  have each : ∀ {xs : List V} {ds : List PyData}, DpAll K G xs ds → PySem.W.EachIs (fun (p : V × PyData) (d : PyData) => Dp K G p.1 d ∧ p.2 = g d) (xs.zip (ds.map g)) ds := by
    intro xs ds h
    induction h using DpAll.rec (motive_1 := fun _ _ _ => True) with
    | non => trivial
    | bl => trivial
    | int => trivial
    | str => trivial
    | lst => trivial
    | tup => trivial
    | nil => exact .nil
    | cons a _ _ ih => exact .cons ⟨a, rfl⟩ ih
  have back : ∀ {ps : List (V × PyData)} {ds : List PyData}, PySem.W.EachIs (fun (p : V × PyData) (d : PyData) => Dp K G p.1 d ∧ p.2 = g d) ps ds → DpAll K G (ps.map Prod.fst) ds := by
    intro ps ds h
    induction h with
    | nil => exact .nil
    | cons a _ ih => exact .cons a.1 ih
  refine back (PySem.W.sort_each (each h) fun p hp q hq => ?_)
  have e1 := ((each h).zip p hp).2
  have e2 := ((each h).zip q hq).2
  show PySem.W.dataLe rev Prod.snd p.1 q.1 = PySem.W.dataLe rev g p.2 q.2
  rw [PySem.W.dataLe_eq, PySem.W.dataLe_eq]
  show cond rev (!PySem.W.dataLt p.1.2 q.1.2) (!PySem.W.dataLt q.1.2 p.1.2) = cond rev (!PySem.W.dataLt (g p.2) (g q.2)) (!PySem.W.dataLt (g q.2) (g p.2))
  rw [e1, e2]

def sortD (g : PyData → PyData) (ds : List PyData) : List PyData := ds.mergeSort (PySem.W.dataLe false g)
/-- sorted(xs, key=f), f a def -/
def rSortKey (K : PySem.W.Frag) (f : Addr) (pre : List PyData → Prop) (g : List PyData → PyData) : List V → List V → Hp → VK → Prop := fun vs zs H Q => ∃ (l : Addr) (xs : List V) (ds : List PyData), vs = [.ref l] ∧ zs = [.ref f] ∧ (SqL K H l xs ∨ SqT K H l xs) ∧ DpAll K H xs ds ∧ (∀ d ∈ ds, pre [d]) ∧
  PySem.W.AllAlike (ds.map fun d => g [d]) ∧ PySem.W.Sortable (ds.map fun d => g [d]) ∧ immAll (ds.map fun d => g [d]) = true ∧ (∀ d ∈ ds, (g [d]).depth ≤ 50) ∧
  ∀ p ys G, H p = none → Ex H G → G p = some (.lst ys) → DpAll K G ys (sortD (fun d => g [d]) ds) → Q (.ref p) G
theorem cr_sortKey {k : Nat} {f : Addr} {fd : FuncData} {x : Str} {pre : List PyData → Prop} {g : List PyData → PyData} (F : FnOk X.prog X.w X.K X.mg X.base CX0 k f fd [x] (spP X.K pre g)) (hr : Room (k + 2) X.A) (hb : Binds X.K fd [x] []) :
    CallRK X (.builtin "sorted") [Str.ofString "key"] (rSortKey X.K f pre g) := by
  intro pins s σ H vs zs us ws Q I r rz h
  obtain ⟨l, xs, ds, rfl, rfl, hs, hd, hp, hal, hso, him, hdep, q⟩ := h
  obtain rfl := Vals.ref1 r
  obtain ⟨w1, rfl, e1⟩ := vals1 rz
  obtain rfl : w1 = Value.ref f := e1
  refine sorted_run (rev := false) I hs (keys_of F hr hb hd hp) (by rw [List.length_map, dpAll_len hd]) him hal hso (fun d hm => ?_) (PyProof.Rows.ksk_s1 _ _) (fun _ => PyProof.Rows.ksk_l1 _ _) (fun a => PyProof.Rows.ksk_t1 f a) fun p G np e => ?_
  · obtain ⟨d0, h0, rfl⟩ := List.mem_map.mp hm
    have h1 := hdep d0 h0
    have h2 := hr.un
    show X.A.units + 1 + 1 + (g [d0]).depth < cLine
    omega
  · exact q p _ G np ((Ex.new np).trans e) (e _ _ upd_same) (dpAll_ex ((Ex.new np).trans e) (byKey_dp _ hd))
end
end AsSort

set_option maxHeartbeats 4000000
set_option autoImplicit false
/-! what a reading gives, told as data. -/
namespace AsKit
open PySem PySem.Spec PyProof.Rows L2 AsSort
open Evl (Ex Ev EvT EvA)

def EvD (K : PySem.W.Frag) (te : TE) (σ : L2.St) (H : Hp) (d : PyData) : Prop := ∀ H1, Ex H H1 → ∀ Q : VK, (∀ v H2, Ex H1 H2 → Dp K H2 v d → Q v H2) → te σ H1 Q
def EvDs (K : PySem.W.Frag) (ta : TA) (σ : L2.St) (H : Hp) (ds : List PyData) : Prop := ∀ H1, Ex H H1 → ∀ Q : List V → Hp → Prop, (∀ vs H2, Ex H1 H2 → DpAll K H2 vs ds → Q vs H2) → ta σ H1 Q
/-- slot i holds d -/
def At (K : PySem.W.Frag) (σ : L2.St) (H : Hp) (i : Nat) (d : PyData) : Prop := ∃ v, σ[i]? = some (some v) ∧ Dp K H v d

section
variable {K : PySem.W.Frag} {σ : L2.St} {H H' : Hp} {ta tb te : TE} {t u : TT} {d e : PyData} {ds : List PyData}
theorem At.mono {i : Nat} (x : Ex H H') (h : At K σ H i d) : At K σ H' i d := let ⟨v, a, b⟩ := h; ⟨v, a, dp_ex x b⟩
theorem EvD.mono (x : Ex H H') (h : EvD K te σ H d) : EvD K te σ H' d := fun H1 a Q q => h H1 (x.trans a) Q q
theorem EvDs.mono {ta : TA} (x : Ex H H') (h : EvDs K ta σ H ds) : EvDs K ta σ H' ds := fun H1 a Q q => h H1 (x.trans a) Q q
theorem d_var {i : Nat} (h : At K σ H i d) : EvD K (tVar i) σ H d := fun H1 a _ q => let ⟨v, h1, h2⟩ := h; ⟨v, h1, q v H1 (Ex.refl H1) (dp_ex a h2)⟩
theorem dp_sc {v : V} : ∀ {d : PyData}, (∀ ds, d ≠ .list ds) → (∀ ds, d ≠ .tuple ds) → Dp K H v d → ∀ G, Dp K G v d
  | _, _, _, .non, _ => .non
  | _, _, _, .bl b, _ => .bl b
  | _, _, _, .int i, _ => .int i
  | _, _, _, .str x, _ => .str x
  | _, a, _, .lst _ _, _ => (a _ rfl).elim
  | _, _, b, .tup _ _, _ => (b _ rfl).elim
theorem d_int {i : Int} : EvD K (tC (.int i)) σ H (.int i) := fun H1 _ _ q => q _ H1 (Ex.refl H1) (.int i)
theorem d_str {x : Str} : EvD K (tC (.str x)) σ H (.str x) := fun H1 _ _ q => q _ H1 (Ex.refl H1) (.str x)
theorem d_bl {b : Bool} : EvD K (tC (.bl b)) σ H (.bool b) := fun H1 _ _ q => q _ H1 (Ex.refl H1) (.bl b)
theorem ev_int {i : Int} (h : EvD K te σ H (.int i)) : Ev te σ H (.int i) := fun H1 a Q q => h H1 a Q fun v H2 x hd => by cases hd; exact q H2 x
theorem ev_str {x : Str} (h : EvD K te σ H (.str x)) : Ev te σ H (.str x) := fun H1 a Q q => h H1 a Q fun v H2 y hd => by cases hd; exact q H2 y
theorem ev_bl {b : Bool} (h : EvD K te σ H (.bool b)) : Ev te σ H (.bl b) := fun H1 a Q q => h H1 a Q fun v H2 y hd => by cases hd; exact q H2 y
theorem d_ofI {i : Int} (h : Ev te σ H (.int i)) : EvD K te σ H (.int i) := fun H1 a Q q => h H1 a Q fun H2 x => q _ H2 x (.int i)
theorem d_ofS {x : Str} (h : Ev te σ H (.str x)) : EvD K te σ H (.str x) := fun H1 a Q q => h H1 a Q fun H2 y => q _ H2 y (.str x)
theorem d_ofB {b : Bool} (h : Ev te σ H (.bl b)) : EvD K te σ H (.bool b) := fun H1 a Q q => h H1 a Q fun H2 y => q _ H2 y (.bl b)
theorem ds_nil : EvDs K tNil σ H [] := fun H1 _ _ q => q [] H1 (Ex.refl H1) .nil
theorem ds_cons {tr : TA} (h : EvD K te σ H d) (hr : EvDs K tr σ H ds) : EvDs K (tCons te tr) σ H (d :: ds) := fun H1 a Q q =>
  h H1 a _ fun v H2 x hd => hr H2 (a.trans x) _ fun vs H3 y hs => q _ H3 (x.trans y) (.cons (dp_ex y hd) hs)
theorem ds_ev {ta : TA} {i : Int} (h : EvDs K ta σ H [.int i]) : EvA ta σ H [.int i] := fun H1 a Q q => h H1 a Q fun vs H2 x hd => by
  cases hd with
  | cons a b =>
    cases a
    cases b
    exact q H2 x
theorem ds_ev2 {ta : TA} {i j : Int} (h : EvDs K ta σ H [.int i, .int j]) : EvA ta σ H [.int i, .int j] := fun H1 a Q q => h H1 a Q fun vs H2 x hd => by
  cases hd with
  | cons a b =>
    cases a
    cases b with
    | cons a b =>
      cases a
      cases b
      exact q H2 x
theorem d_tup {ta : TA} (h : EvDs K ta σ H ds) (hl : ds.length ≤ 100000) : EvD K (tTup ta) σ H (.tuple ds) := fun H1 a Q q =>
  h H1 a _ fun vs H2 x hd => ⟨Evl.sz_of (by rw [dpAll_len hd]; exact hl), fun p hp => q _ _ (x.trans (Ex.new hp)) (.tup (Evl.st_of upd_same) (dpAll_ex (Ex.new hp) hd))⟩
theorem d_lst {ta : TA} (h : EvDs K ta σ H ds) (hl : ds.length ≤ 100000) : EvD K (tLst ta) σ H (.list ds) := fun H1 a Q q =>
  h H1 a _ fun vs H2 x hd => ⟨Evl.sz_of (by rw [dpAll_len hd]; exact hl), fun p hp => q _ _ (x.trans (Ex.new hp)) (.lst (Evl.sq_of upd_same) (dpAll_ex (Ex.new hp) hd))⟩
theorem d_call {ta : TA} {pre : List PyData → Prop} {g : List PyData → PyData} {E : XK} (h : EvDs K ta σ H ds) (hp : pre ds) : EvD K (tCall (spP K pre g) [] E ta) σ H (g ds) := fun H1 a Q q =>
  h H1 a _ fun vs H2 x hd => by
    show spP K pre g (vs ++ []) H2 Q E
    rw [List.append_nil]
    exact ⟨ds, hd, hp, fun v H3 y hv => q v H3 (x.trans y) hv⟩
theorem d_eqTo (h : EvD K te σ H d) (e1 : d = e) : EvD K te σ H e := e1 ▸ h
/-- len -/
def rLenQ (K : PySem.W.Frag) : List V → Hp → VK → Prop := fun xs H Q => ∃ p ys, xs = [.ref p] ∧ (SqL K H p ys ∨ SqT K H p ys) ∧ Q (.int ys.length) H
def rLenTx : List V → Hp → VK → Prop := fun xs H Q => ∃ z, xs = [.str z] ∧ z.length ≤ sizeLine ∧ Q (.int z.length) H
theorem d_lenT (h : EvD K te σ H (.tuple ds)) : EvD K (tCB (rLenQ K) (tCons te tNil)) σ H (.int (ds.length : Int)) := fun H1 a Q q =>
  h H1 a _ fun v H2 x hd => by
    cases hd with
    | tup hs hx => exact ⟨_, _, rfl, .inr hs, by rw [dpAll_len hx]; exact q _ H2 x (.int _)⟩
theorem d_lenL (h : EvD K te σ H (.list ds)) : EvD K (tCB (rLenQ K) (tCons te tNil)) σ H (.int (ds.length : Int)) := fun H1 a Q q =>
  h H1 a _ fun v H2 x hd => by
    cases hd with
    | lst hs hx => exact ⟨_, _, rfl, .inl hs, by rw [dpAll_len hx]; exact q _ H2 x (.int _)⟩
theorem d_lenS {x : Str} (h : EvD K te σ H (.str x)) (hz : x.length ≤ 100000) : EvD K (tCB rLenTx (tCons te tNil)) σ H (.int (x.length : Int)) := fun H1 a Q q =>
  h H1 a _ fun v H2 y hd => by
    cases hd
    exact ⟨x, rfl, Evl.sz_of hz, q _ H2 y (.int _)⟩
/-- equal data -/
theorem t_eqD (h : EvD K ta σ H d) (h2 : EvD K tb σ H e) (s1 : SeqAt.shaped d = true) (s2 : SeqAt.shaped e = true) : EvT (tTest (tOp (rEqD K) ta tb)) σ H (PyData.eqv d e) := fun H1 a Q q =>
  h H1 a _ fun v H2 x hd => h2 H2 (a.trans x) _ fun w H3 y he => ⟨d, e, dp_ex y hd, he, s1, s2, _, rfl, q H3 (x.trans y)⟩
theorem d_eqD (h : EvD K ta σ H d) (h2 : EvD K tb σ H e) (s1 : SeqAt.shaped d = true) (s2 : SeqAt.shaped e = true) : EvD K (tOp (rEqD K) ta tb) σ H (.bool (PyData.eqv d e)) := fun H1 a Q q =>
  h H1 a _ fun v H2 x hd => h2 H2 (a.trans x) _ fun w H3 y he => ⟨d, e, dp_ex y hd, he, s1, s2, q _ H3 (x.trans y) (.bl _)⟩
theorem d_neD (h : EvD K ta σ H d) (h2 : EvD K tb σ H e) (s1 : SeqAt.shaped d = true) (s2 : SeqAt.shaped e = true) : EvD K (tOp (rNeD K) ta tb) σ H (.bool (!PyData.eqv d e)) := fun H1 a Q q =>
  h H1 a _ fun v H2 x hd => h2 H2 (a.trans x) _ fun w H3 y he => ⟨d, e, dp_ex y hd, he, s1, s2, q _ H3 (x.trans y) (.bl _)⟩
/-- texts alike -/
theorem d_eqS {x y : Str} (h : EvD K ta σ H (.str x)) (h2 : EvD K tb σ H (.str y)) : EvD K (tOp rEq ta tb) σ H (.bool (decide (x = y))) :=
  d_eqTo (d_ofB (Evl.ev_op (ev_str h) (ev_str h2) (Evl.rv_eq rfl))) (by
    by_cases e : x = y
    · subst e; simp
    · rw [decide_eq_false e, decide_eq_false (fun z => e (V.str.inj z))])
theorem d_neS {x y : Str} (h : EvD K ta σ H (.str x)) (h2 : EvD K tb σ H (.str y)) : EvD K (tOp rNe ta tb) σ H (.bool (!decide (x = y))) :=
  d_eqTo (d_ofB (Evl.ev_op (ev_str h) (ev_str h2) (Evl.rv_ne rfl))) (by
    by_cases e : x = y
    · subst e; simp
    · rw [decide_eq_false e, decide_eq_false (fun z => e (V.str.inj z))])
theorem d_eqI {x y : Int} (h : EvD K ta σ H (.int x)) (h2 : EvD K tb σ H (.int y)) : EvD K (tOp rEq ta tb) σ H (.bool (decide (x = y))) :=
  d_eqTo (d_ofB (Evl.ev_op (ev_int h) (ev_int h2) (Evl.rv_eq rfl))) (by
    by_cases e : x = y
    · subst e; simp
    · rw [decide_eq_false e, decide_eq_false (fun z => e (V.int.inj z))])
theorem d_neI {x y : Int} (h : EvD K ta σ H (.int x)) (h2 : EvD K tb σ H (.int y)) : EvD K (tOp rNe ta tb) σ H (.bool (!decide (x = y))) :=
  d_eqTo (d_ofB (Evl.ev_op (ev_int h) (ev_int h2) (Evl.rv_ne rfl))) (by
    by_cases e : x = y
    · subst e; simp
    · rw [decide_eq_false e, decide_eq_false (fun z => e (V.int.inj z))])
theorem t_ofD {b : Bool} (h : EvD K te σ H (.bool b)) : EvT (tTest te) σ H b := Evl.et_test (ev_bl h)
theorem t_ofB {b : Bool} (h : EvD K te σ H (.bool b)) : EvT (tB te) σ H b := Evl.et_B (ev_bl h)
/-- isinstance -/
def tyName : PyData → String
  | .none => "NoneType"
  | .bool _ => "bool"
  | .int _ => "int"
  | .str _ => "str"
  | .list _ => "list"
  | .tuple _ => "tuple"
  | .dict _ => "dict"
theorem tyx {v : V} : ∀ {d : PyData}, Dp K H v d → TyX K H v (.type (tyName d)) := by
  intro d h
  cases h with
  | non => exact .base .non
  | bl b => exact .base (.bl b)
  | int i => exact .base (.int i)
  | str x => exact .base (.str x)
  | lst a b =>
    rcases a with a | a
    · rcases a with a | ⟨o, a⟩
      · exact .base (.lst a)
      · exact .base (.frz a)
    · obtain ⟨o, its, n, h1, h2, _⟩ := a
      exact .kList h1 h2
  | tup a b =>
    rcases a with a | a
    · rcases a with a | ⟨o, a⟩
      · exact .base (.tup a)
      · exact .fTuple a
    · obtain ⟨o, its, n, h1, h2, _⟩ := a
      exact .kTuple h1 h2
/-- isinstance(e, T), T a built-in class -/
def kitName (d : PyData) (T : String) : Bool := match kitB (tyName d) T with | some b => b | none => false
theorem d_isi {T : String} {b : Bool} (h : EvD K te σ H d) (hk : kitB (tyName d) T = some b) : EvD K (tCB (rIsi K) (tCons te (tCons (tC (.ty T)) tNil))) σ H (.bool b) := fun H1 a Q q =>
  h H1 a _ fun v H2 x hd => ⟨v, .ty T, .type (tyName d), .type T, b, rfl, .ty T, tyx hd, kit_ty hk, q _ H2 x (.bl b)⟩
theorem d_isiT {cs : List V} {us : List Value} {b : Bool} {ta : TA} (h : EvD K te σ H d) (hc : ∀ H1, Ex H H1 → EvA ta σ H1 cs) (hl : cs.length ≤ 100000) (hp : Paired ClsV cs us) (hk : PySem.W.kitAny K (.type (tyName d)) us = some b) :
    EvD K (tCB (rIsiT K) (tCons te (tCons (tTup ta) tNil))) σ H (.bool b) := fun H1 a Q q =>
  h H1 a _ fun v H2 x hd => hc H2 (a.trans x) H2 (Ex.refl H2) _ fun H3 y => ⟨Evl.sz_of hl, fun p hp' => ⟨v, p, cs, .type (tyName d), us, b, rfl, upd_same, hp, tyx (dp_ex (y.trans (Ex.new hp')) hd), hk, q _ _ ((x.trans y).trans (Ex.new hp')) (.bl b)⟩⟩
/-- not, and, or -/
theorem d_not {b : Bool} (h : EvD K te σ H (.bool b)) : EvD K (tNotV te) σ H (.bool (!b)) := d_ofB (Evl.ev_notV (ev_bl h))
theorem d_and {a b : Bool} (h1 : EvD K ta σ H (.bool a)) (h2 : a = true → EvD K tb σ H (.bool b)) : EvD K (tAndV ta tb) σ H (.bool (a && b)) := d_ofB (Evl.ev_andV (ev_bl h1) fun e => ev_bl (h2 e))
theorem d_or {a b : Bool} (h1 : EvD K ta σ H (.bool a)) (h2 : a = false → EvD K tb σ H (.bool b)) : EvD K (tOrV ta tb) σ H (.bool (a || b)) := d_ofB (Evl.ev_orV (ev_bl h1) fun e => ev_bl (h2 e))
/-- ints -/
theorem d_opI {g : Int → Int → V} {z : V} {i j : Int} {dz : PyData} (h : EvD K ta σ H (.int i)) (h2 : EvD K tb σ H (.int j)) (hz : ∀ G, Dp K G (g i j) dz) : EvD K (tOp (rI0 g) ta tb) σ H dz := fun H1 a Q q =>
  h H1 a _ fun v H2 x hd => h2 H2 (a.trans x) _ fun w H3 y he => by
    cases hd
    cases he
    exact ⟨i, j, rfl, rfl, q _ H3 (x.trans y) (hz _)⟩
theorem d_opS {g : Str → Str → V} {i j : Str} {dz : PyData} (h : EvD K ta σ H (.str i)) (h2 : EvD K tb σ H (.str j)) (hz : ∀ G, Dp K G (g i j) dz) : EvD K (tOp (fun x y H Q => ∃ i j, x = .str i ∧ y = .str j ∧ Q (g i j) H) ta tb) σ H dz := fun H1 a Q q =>
  h H1 a _ fun v H2 x hd => h2 H2 (a.trans x) _ fun w H3 y he => by
    cases hd
    cases he
    exact ⟨i, j, rfl, rfl, q _ H3 (x.trans y) (hz _)⟩
/-- c in s, c one sign -/
theorem d_inS {c : Nat} {z : Str} (h : EvD K ta σ H (.str ⟨#[c]⟩)) (h2 : EvD K tb σ H (.str z)) : EvD K (tOp rInS ta tb) σ H (.bool (decide (c ∈ z.cps.toList))) := fun H1 a Q q =>
  h H1 a _ fun v H2 x hd => h2 H2 (a.trans x) _ fun w H3 y he => by
    cases hd
    cases he
    exact ⟨c, z, rfl, rfl, q _ H3 (x.trans y) (.bl _)⟩
/-- xs[i] -/
theorem d_ixT {i : Int} (h : EvD K ta σ H (.tuple ds)) (h2 : EvD K tb σ H (.int i)) (hi : atI ds i = some d) : EvD K (tOp (rIxT K) ta tb) σ H d := fun H1 a Q q =>
  h H1 a _ fun v H2 x hd => h2 H2 (a.trans x) _ fun w H3 y he => by
    cases he
    cases hd with
    | tup hs hx =>
      rename_i p xs
      have hl : xs.length = ds.length := dpAll_len hx
      unfold atI at hi
      cases hk : ixN ds.length i with
      | none => rw [hk] at hi; cases hi
      | some k =>
        rw [hk] at hi
        obtain ⟨hk1, hk2⟩ := List.getElem?_eq_some_iff.mp hi
        have hx1 : xs[k]? = some xs[k] := List.getElem?_eq_getElem (by omega)
        exact ⟨_, xs, i, xs[k], rfl, rfl, Evl.ex_t y hs, by unfold atI; rw [show ixN xs.length i = some k from hl ▸ hk]; exact hx1, q _ H3 (x.trans y) (dp_ex y (dpAll_get hx hx1 hi))⟩
theorem d_ixL {i : Int} (h : EvD K ta σ H (.list ds)) (h2 : EvD K tb σ H (.int i)) (hi : atI ds i = some d) : EvD K (tOp (rIxL K) ta tb) σ H d := fun H1 a Q q =>
  h H1 a _ fun v H2 x hd => h2 H2 (a.trans x) _ fun w H3 y he => by
    cases he
    cases hd with
    | lst hs hx =>
      rename_i p xs
      have hl : xs.length = ds.length := dpAll_len hx
      unfold atI at hi
      cases hk : ixN ds.length i with
      | none => rw [hk] at hi; cases hi
      | some k =>
        rw [hk] at hi
        obtain ⟨hk1, hk2⟩ := List.getElem?_eq_some_iff.mp hi
        have hx1 : xs[k]? = some xs[k] := List.getElem?_eq_getElem (by omega)
        exact ⟨_, xs, i, xs[k], rfl, rfl, Evl.ex_l y hs, by unfold atI; rw [show ixN xs.length i = some k from hl ▸ hk]; exact hx1, q _ H3 (x.trans y) (dp_ex y (dpAll_get hx hx1 hi))⟩
theorem d_ixS {z : Str} {i : Int} {c : Nat} (h : EvD K ta σ H (.str z)) (h2 : EvD K tb σ H (.int i)) (hz : z.length ≤ 100000) (hi : atI z.cps.toList i = some c) : EvD K (tOp rIxS ta tb) σ H (.str ⟨#[c]⟩) :=
  d_ofS (Evl.ev_op (ev_str h) (ev_int h2) (Evl.rv_ixS hz hi))
/-- slices of texts -/
def EvP (K : PySem.W.Frag) (to : TO) (σ : L2.St) (H : Hp) (o : Option Int) : Prop := Evl.EvO to σ H o
theorem p_none : EvP K tNoPart σ H none := Evl.eo_none
theorem p_some {i : Int} (h : EvD K te σ H (.int i)) : EvP K (tPart te) σ H (some i) := Evl.eo_some (ev_int h)
theorem d_slS {tl th : TO} {z : Str} {lo hi : Option Int} (h : EvD K te σ H (.str z)) (h1 : EvP K tl σ H lo) (h2 : EvP K th σ H hi) (hz : z.length ≤ 100000) : EvD K (tSl rSlS te tl th) σ H (.str (cutS z lo hi)) := fun H1 a Q q =>
  h H1 a _ fun v H2 x hd => h1 H2 (a.trans x) _ fun H3 y => h2 H3 ((a.trans x).trans y) _ fun H4 w => by
    cases hd
    exact ⟨z, rfl, Evl.sz_of hz, q _ H4 ((x.trans y).trans w) (.str _)⟩
theorem cut_len (z : Str) (lo hi : Option Int) : (cutS z lo hi).length ≤ z.length := by
  unfold cutS
  have hl : z.cps.toList.length = z.length := Array.length_toList
  show (List.toArray _).size ≤ _
  rw [List.size_toArray, List.length_take, List.length_drop]
  omega
theorem cut_tl (z : Str) (lo hi : Option Int) : (cutS z lo hi).cps.toList = (z.cps.toList.drop (HT.sIx z.length 0 lo)).take (HT.sIx z.length z.length hi - HT.sIx z.length 0 lo) := rfl
/-- z[p:p+n] -/
theorem cut_mid (z : Str) (p n : Nat) : (cutS z (some (p : Int)) (some ((p + n : Nat) : Int))).cps.toList = (z.cps.toList.drop p).take n := by
  have hl : z.cps.toList.length = z.length := Array.length_toList
  rw [cut_tl, HT.sIx_nat, HT.sIx_nat]
  by_cases h : p ≤ z.length
  · rw [Nat.min_eq_left h]
    by_cases h2 : p + n ≤ z.length
    · rw [Nat.min_eq_left h2, show p + n - p = n by omega]
    · rw [Nat.min_eq_right (by omega), List.take_of_length_le (by rw [List.length_drop]; omega), List.take_of_length_le (by rw [List.length_drop]; omega)]
  · rw [List.drop_eq_nil_of_le (by omega : z.cps.toList.length ≤ p), List.drop_eq_nil_of_le (by omega)]
    simp
theorem cut_from (z : Str) (p : Nat) : (cutS z (some (p : Int)) none).cps.toList = z.cps.toList.drop p := by
  have hl : z.cps.toList.length = z.length := Array.length_toList
  rw [cut_tl, HT.sIx_nat, HT.sIx_none]
  by_cases h : p ≤ z.length
  · rw [Nat.min_eq_left h, List.take_of_length_le (by rw [List.length_drop]; omega)]
  · rw [List.drop_eq_nil_of_le (by omega : z.cps.toList.length ≤ p), List.drop_eq_nil_of_le (by omega)]
    simp
theorem cut_to (z : Str) (p : Nat) : (cutS z none (some (p : Int))).cps.toList = z.cps.toList.take p := by
  have hl : z.cps.toList.length = z.length := Array.length_toList
  rw [cut_tl, HT.sIx_nat, HT.sIx_none, List.drop_zero]
  by_cases h : p ≤ z.length
  · rw [Nat.min_eq_left h, Nat.sub_zero]
  · rw [Nat.min_eq_right (by omega), Nat.sub_zero, List.take_of_length_le (by omega), List.take_of_length_le (by omega)]
/-- texts joined -/
def rAddS : R2 := fun x y H Q => ∃ i j, x = .str i ∧ y = .str j ∧ i.length + j.length ≤ sizeLine ∧ Q (.str (i ++ j)) H
theorem d_addS {x y : Str} (h : EvD K ta σ H (.str x)) (h2 : EvD K tb σ H (.str y)) (hz : x.length + y.length ≤ 100000) : EvD K (tOp rAddS ta tb) σ H (.str (x ++ y)) := fun H1 a Q q =>
  h H1 a _ fun v H2 u hd => h2 H2 (a.trans u) _ fun w H3 y he => by
    cases hd
    cases he
    exact ⟨_, _, rfl, rfl, Evl.sz_of hz, q _ H3 (u.trans y) (.str _)⟩
theorem add_len (x y : Str) : (x ++ y).length = x.length + y.length := by
  show (x.cps ++ y.cps).size = _
  rw [Array.size_append]
  rfl
/-- all, any of a list -/
theorem bools_of {G : Hp} : ∀ {xs : List V} {bs : List Bool}, DpAll K G xs (bs.map PyData.bool) → xs = bs.map V.bl
  | _, [], .nil => rfl
  | _, _ :: _, .cons (.bl b) t => by rw [bools_of t]; rfl
theorem d_all {bs : List Bool} (h : EvD K te σ H (.list (bs.map PyData.bool))) : EvD K (tCB (rAll K) (tCons te tNil)) σ H (.bool (bs.all id)) := fun H1 a Q q =>
  h H1 a _ fun v H2 x hd => by
    cases hd with
    | lst hs hx => exact ⟨_, bs, rfl, by rw [← bools_of hx]; exact hs, q _ H2 x (.bl _)⟩
theorem d_any {bs : List Bool} (h : EvD K te σ H (.list (bs.map PyData.bool))) : EvD K (tCB (rAny K) (tCons te tNil)) σ H (.bool (bs.any id)) := fun H1 a Q q =>
  h H1 a _ fun v H2 x hd => by
    cases hd with
    | lst hs hx => exact ⟨_, bs, rfl, by rw [← bools_of hx]; exact hs, q _ H2 x (.bl _)⟩
/-- tuple(list), list(tuple) -/
def rTupQ (K : PySem.W.Frag) : List V → Hp → VK → Prop := fun xs H Q => ∃ p ys, xs = [.ref p] ∧ ((SqL K H p ys ∧ ∀ l, H l = none → Q (.ref l) (upd H l (.tup ys))) ∨ (SqT K H p ys ∧ Q (.ref p) H))
theorem d_tupOf (h : EvD K te σ H (.list ds)) : EvD K (tCB (rTupQ K) (tCons te tNil)) σ H (.tuple ds) := fun H1 a Q q =>
  h H1 a _ fun v H2 x hd => by
    cases hd with
    | lst hs hx => exact ⟨_, _, rfl, .inl ⟨hs, fun l hl => q _ _ (x.trans (Ex.new hl)) (.tup (Evl.st_of upd_same) (dpAll_ex (Ex.new hl) hx))⟩⟩
end
end AsKit

set_option maxHeartbeats 4000000
set_option autoImplicit false
/-! comprehensions and loops, told as data. -/
namespace AsKit
open PySem PySem.Spec PyProof.Rows L2 AsSort
open Evl (Ex Ev EvT EvA)

theorem lc_str {y : Str} {g : TG} {tt : TT} {te : TE} {vs : List Nat} {σ : L2.St} {H1 : Hp} {D : Addr} {Qd : Hp → Prop} (Pv : Nat → Hp → Prop) (h0 : Pv 0 (upd H1 D (.lst [])))
    (hs : ∀ i c H, y.cps.toList[i]? = some c → Pv i H → g (.str ⟨#[c]⟩) (wipe σ vs) H fun σ2 H2 => wipe σ2 vs = wipe σ vs ∧ tt σ2 H2 fun b H3 =>
      if b = true then te σ2 H3 fun y H4 => ∃ acc, H4 D = some (.lst acc) ∧ acc.length < sizeLine ∧ Pv (i + 1) (upd H4 D (.lst (acc ++ [y]))) else Pv (i + 1) H3) (hd : ∀ H, Pv y.cps.toList.length H → Qd H) :
    ∃ W : Nat → Nat → Hp → Prop, (∃ m, W 0 m (upd H1 D (.lst []))) ∧ ∀ i m H, W i m H →
      ((Its y).stop i H ∧ Qd H) ∨ ((Its y).go i H ∧ ∃ Nx : Hp → Prop, (∀ H', Nx H' → ∃ m', m' < m ∧ W (i + 1) m' H') ∧ ∀ x H', (Its y).yld i H x H' → g x (wipe σ vs) H' fun σ2 H2 => wipe σ2 vs = wipe σ vs ∧ tt σ2 H2 fun b H3 =>
        if b = true then te σ2 H3 fun y H4 => ∃ acc, H4 D = some (.lst acc) ∧ acc.length < sizeLine ∧ Nx (upd H4 D (.lst (acc ++ [y]))) else Nx H3) := by
  have hsz : y.cps.toList.length = y.cps.size := Array.length_toList
  refine ⟨fun i m H => m = y.cps.toList.length - i ∧ i ≤ y.cps.toList.length ∧ Pv i H, ⟨y.cps.toList.length, by simp, Nat.zero_le _, h0⟩, ?_⟩
  rintro i m H ⟨rfl, hi, p⟩
  by_cases hlt : i < y.cps.toList.length
  · refine .inr ⟨by show i < y.cps.size; omega, Pv (i + 1), fun H' p' => ⟨y.cps.toList.length - (i + 1), by omega, rfl, hlt, p'⟩, fun x H' z => ?_⟩
    obtain ⟨e, c, hc, rfl⟩ := z
    subst e
    exact hs i c _ (by rw [Array.getElem?_toList]; exact hc) p
  · have e : i = y.cps.toList.length := by omega
    subst e
    exact .inl ⟨by show y.cps.size ≤ _; omega, hd H p⟩

section
variable {K : PySem.W.Frag} {σ : L2.St} {H H' : Hp} {ta tb te tl : TE} {t u : TT} {d e : PyData} {ds : List PyData} {gt : TG} {vs : List Nat}
/-- D holds what the first i items gave -/
def Cd (K : PySem.W.Frag) (H : Hp) (ds : List PyData) (f : PyData → Bool) (g : PyData → PyData) (D : Addr) (i : Nat) (H' : Hp) : Prop := H D = none ∧ Ex H H' ∧ ∃ acc, H' D = some (.lst acc) ∧ DpAll K H' acc (((ds.take i).filter f).map g)
theorem immAll_of : ∀ {ds : List PyData}, (∀ d ∈ ds, imm d = true) → immAll ds = true
  | [], _ => rfl
  | d :: ds, h => by
    show (imm d && immAll ds) = true
    rw [h d (List.mem_cons_self ..), immAll_of fun z hz => h z (List.mem_cons_of_mem _ hz)]
    rfl
theorem imm_all {ds : List PyData} (h : immAll ds = true) : ∀ d ∈ ds, imm d = true := fun d hd => by
  obtain ⟨i, hi⟩ := List.mem_iff_getElem?.mp hd
  exact immAll_get h hi
theorem cd_imm {f : PyData → Bool} {g : PyData → PyData} (him : ∀ d ∈ ds, f d = true → imm (g d) = true) (i : Nat) : immAll (((ds.take i).filter f).map g) = true := immAll_of fun z hz => by
  obtain ⟨d, hd, rfl⟩ := List.mem_map.mp hz
  have h2 := List.mem_filter.mp hd
  exact him d (List.mem_of_mem_take h2.1) h2.2
theorem cd_turn {f : PyData → Bool} {g : PyData → PyData} {D : Addr} {i : Nat} {σ2 : L2.St} (him : ∀ d ∈ ds, f d = true → imm (g d) = true) (p : Cd K H ds f g D i H') (hi : ds[i]? = some d) (hz : ds.length ≤ 50000)
    (ht : EvT t σ2 H' (f d)) (he : f d = true → EvD K te σ2 H' (g d)) :
    t σ2 H' fun b H3 => if b = true then te σ2 H3 fun y H4 => ∃ acc, H4 D = some (.lst acc) ∧ acc.length < sizeLine ∧ Cd K H ds f g D (i + 1) (upd H4 D (.lst (acc ++ [y]))) else Cd K H ds f g D (i + 1) H3 := by
  obtain ⟨p1, p2, acc, p3, p4⟩ := p
  have ek : ds.take (i + 1) = ds.take i ++ [d] := by rw [List.take_add_one, hi]; simp
  refine ht H' (Ex.refl _) _ fun H3 e3 => ?_
  cases hf : f d with
  | true =>
    show te σ2 H3 fun y H4 => ∃ acc, H4 D = some (.lst acc) ∧ acc.length < sizeLine ∧ Cd K H ds f g D (i + 1) (upd H4 D (.lst (acc ++ [y])))
    refine he hf H3 e3 _ fun y H4 e4 hy => ?_
    have p5 : H4 D = some (.lst acc) := e4 D _ (e3 D _ p3)
    have hl : acc.length ≤ 50000 := by
      rw [dpAll_len p4, List.length_map]
      have h1 := List.length_filter_le f (ds.take i)
      have h2 := List.length_take_le i ds
      have h3 := List.length_take_le' i ds
      omega
    refine ⟨acc, p5, Evl.sz_lt (by omega), p1, Ex.mut ((p2.trans e3).trans e4) p1, acc ++ [y], upd_same, ?_⟩
    have h6 : DpAll K H4 acc (((ds.take i).filter f).map g) := dpAll_ex (e3.trans e4) p4
    have hd' : d ∈ ds := List.mem_of_getElem? hi
    rw [ek, List.filter_append, List.map_append, List.filter_cons, if_pos hf]
    exact dpAll_snoc (dp_tu (tu_lst p5) (him d hd' hf) hy) (dpAll_tu (tu_lst p5) (cd_imm him i) h6)
  | false =>
    show Cd K H ds f g D (i + 1) H3
    refine ⟨p1, p2.trans e3, acc, e3 D _ p3, ?_⟩
    rw [ek, List.filter_append, List.map_append, List.filter_cons, if_neg (by rw [hf]; decide)]
    show DpAll K H3 acc (_ ++ [])
    rw [List.append_nil]
    exact dpAll_ex e3 p4
theorem cd_end {f : PyData → Bool} {g : PyData → PyData} {D : Addr} (p : Cd K H ds f g D ds.length H') : Ex H H' ∧ Dp K H' (.ref D) (.list ((ds.filter f).map g)) := by
  obtain ⟨p1, p2, acc, p3, p4⟩ := p
  rw [List.take_length] at p4
  exact ⟨p2, .lst (Evl.sq_of p3) p4⟩
theorem cd_end2 {f : PyData → Bool} {g : PyData → PyData} {D : Addr} {n : Nat} (hl : ds.length = n) (p : Cd K H ds f g D n H') : Ex H H' ∧ Dp K H' (.ref D) (.list ((ds.filter f).map g)) := by
  subst hl
  exact cd_end p
theorem cd_start {f : PyData → Bool} {g : PyData → PyData} {D : Addr} (h : H D = none) : Cd K H ds f g D 0 (upd H D (.lst [])) := ⟨h, Ex.new h, [], upd_same, by rw [List.take_zero]; exact .nil⟩
/-- what a turn asks: the target takes the item d, then test and expression -/
def Turn (K : PySem.W.Frag) (gt : TG) (t : TT) (te : TE) (vs : List Nat) (σ : L2.St) (H : Hp) (d : PyData) (b : Bool) (o : PyData) : Prop := ∀ x H1, Ex H H1 → Dp K H1 x d → ∀ k : L2.St → Hp → Prop,
  (∀ σ2, wipe σ2 vs = wipe σ vs → EvT t σ2 H1 b → (b = true → EvD K te σ2 H1 o) → k σ2 H1) → gt x (wipe σ vs) H1 k
theorem d_lcT (f : PyData → Bool) (g : PyData → PyData) (h : EvD K tl σ H (.tuple ds)) (hz : ds.length ≤ 50000) (him : ∀ d ∈ ds, f d = true → imm (g d) = true) (ht : ∀ d ∈ ds, Turn K gt t te vs σ H d (f d) (g d)) :
    EvD K (tLc (iTup K tl) gt t te vs) σ H (.list ((ds.filter f).map g)) := fun H1 a Q q => h H1 a _ fun v H2 x hd => by
  cases hd with
  | tup hs hx =>
    refine ⟨_, rfl, ⟨_, hs⟩, fun D hD => lc_tup (Cd K H2 ds f g D) (cd_start hD) (fun i H' _ p => Evl.ex_t p.2.1 hs) (fun i y H' hi p => ?_) fun H' p => ?_⟩
    · have hi2 : i < ds.length := by rw [← dpAll_len hx]; exact (List.getElem?_eq_some_iff.mp hi).1
      have hd : ds[i]? = some ds[i] := List.getElem?_eq_getElem hi2
      exact ht ds[i] (List.getElem_mem hi2) y H' (a.trans (x.trans p.2.1)) (dp_ex p.2.1 (dpAll_get hx hi hd)) _ fun σ2 w h1 h2 => ⟨w, cd_turn him p hd hz h1 h2⟩
    · rw [dpAll_len hx] at p
      have z := cd_end p
      exact q _ H' (x.trans z.1) z.2
theorem d_lcL (f : PyData → Bool) (g : PyData → PyData) (h : EvD K tl σ H (.list ds)) (hz : ds.length ≤ 50000) (him : ∀ d ∈ ds, f d = true → imm (g d) = true) (ht : ∀ d ∈ ds, Turn K gt t te vs σ H d (f d) (g d)) :
    EvD K (tLc (iList K tl) gt t te vs) σ H (.list ((ds.filter f).map g)) := fun H1 a Q q => h H1 a _ fun v H2 x hd => by
  cases hd with
  | lst hs hx =>
    refine ⟨_, rfl, ⟨_, hs⟩, fun D hD => lc_list (Cd K H2 ds f g D) (cd_start hD) (fun i H' _ p => Evl.ex_l p.2.1 hs) (fun i y H' hi p => ?_) fun H' p => ?_⟩
    · have hi2 : i < ds.length := by rw [← dpAll_len hx]; exact (List.getElem?_eq_some_iff.mp hi).1
      have hd : ds[i]? = some ds[i] := List.getElem?_eq_getElem hi2
      exact ht ds[i] (List.getElem_mem hi2) y H' (a.trans (x.trans p.2.1)) (dp_ex p.2.1 (dpAll_get hx hi hd)) _ fun σ2 w h1 h2 => ⟨w, cd_turn him p hd hz h1 h2⟩
    · rw [dpAll_len hx] at p
      have z := cd_end p
      exact q _ H' (x.trans z.1) z.2
/-- a text's sgns -/
def sgns (z : Str) : List PyData := z.cps.toList.map fun c => .str ⟨#[c]⟩
theorem d_lcS {z : Str} (f : PyData → Bool) (g : PyData → PyData) (h : EvD K tl σ H (.str z)) (hz : z.length ≤ 50000) (him : ∀ d ∈ sgns z, f d = true → imm (g d) = true) (ht : ∀ c ∈ z.cps.toList, Turn K gt t te vs σ H (.str ⟨#[c]⟩) (f (.str ⟨#[c]⟩)) (g (.str ⟨#[c]⟩))) :
    EvD K (tLc (iStr tl) gt t te vs) σ H (.list (((sgns z).filter f).map g)) := fun H1 a Q q => h H1 a _ fun v H2 x hd => by
  cases hd
  have hl : (sgns z).length = z.cps.toList.length := List.length_map ..
  have hl2 : z.cps.toList.length = z.length := Array.length_toList
  refine ⟨z, rfl, fun D hD => lc_str (Cd K H2 (sgns z) f g D) (cd_start hD) (fun i c H' hi p => ?_) fun H' p => ?_⟩
  · have hd : (sgns z)[i]? = some (.str ⟨#[c]⟩) := by unfold sgns; rw [List.getElem?_map, hi]; rfl
    exact ht c (List.mem_of_getElem? hi) _ H' (a.trans (x.trans p.2.1)) (.str _) _ fun σ2 w h1 h2 => ⟨w, cd_turn him p hd (by omega) h1 h2⟩
  · have z := cd_end2 hl p
    exact q _ H' (x.trans z.1) z.2
/-- range(lo, hi) -/
def rngD (lo : Int) (n : Nat) : List PyData := (List.range n).map fun (i : Nat) => .int (lo + i)
theorem d_lcR2 {ta : TA} {lo hi : Int} (f : PyData → Bool) (g : PyData → PyData) (h : EvDs K ta σ H [.int lo, .int hi]) (hn : -1000 ≤ lo ∧ lo ≤ 40000 ∧ -1000 ≤ hi ∧ hi ≤ 40000) (him : ∀ d ∈ rngD lo (hi - lo).toNat, f d = true → imm (g d) = true)
    (ht : ∀ i : Nat, i < (hi - lo).toNat → Turn K gt t te vs σ H (.int (lo + i)) (f (.int (lo + i))) (g (.int (lo + i)))) :
    EvD K (tLc (iRng2 ta) gt t te vs) σ H (.list (((rngD lo (hi - lo).toNat).filter f).map g)) := fun H1 a Q q => ds_ev2 h H1 a _ fun H2 x => by
  have hl : (rngD lo (hi - lo).toNat).length = (hi - lo).toNat := by unfold rngD; rw [List.length_map, List.length_range]
  refine ⟨lo, hi, rfl, by omega, fun D hD => lc_range (lo := lo) (n := (hi - lo).toNat) (Cd K H2 (rngD lo (hi - lo).toNat) f g D) (cd_start hD) (fun i H' hi p => ?_) fun H' p => ?_⟩
  · have hd : (rngD lo (‹Int› - lo).toNat)[i]? = some (.int (lo + i)) := by unfold rngD; rw [List.getElem?_map, List.getElem?_range hi]; rfl
    exact ht i hi _ H' (a.trans (x.trans p.2.1)) (.int _) _ fun σ2 w h1 h2 => ⟨w, cd_turn him p hd (by omega) h1 h2⟩
  · have z := cd_end2 hl p
    exact q _ H' (x.trans z.1) z.2
theorem d_lcR1 {ta : TA} {hi : Int} (f : PyData → Bool) (g : PyData → PyData) (h : EvDs K ta σ H [.int hi]) (hn : -1000 ≤ hi ∧ hi ≤ 40000) (him : ∀ d ∈ rngD 0 hi.toNat, f d = true → imm (g d) = true)
    (ht : ∀ i : Nat, i < hi.toNat → Turn K gt t te vs σ H (.int (0 + i)) (f (.int (0 + i))) (g (.int (0 + i)))) :
    EvD K (tLc (iRng1 ta) gt t te vs) σ H (.list (((rngD 0 hi.toNat).filter f).map g)) := fun H1 a Q q => ds_ev h H1 a _ fun H2 x => by
  have hl : (rngD 0 hi.toNat).length = hi.toNat := by unfold rngD; rw [List.length_map, List.length_range]
  refine ⟨hi, rfl, by omega, by omega, fun D hD => lc_range (lo := 0) (n := hi.toNat) (Cd K H2 (rngD 0 hi.toNat) f g D) (cd_start hD) (fun i H' hi p => ?_) fun H' p => ?_⟩
  · have hd : (rngD 0 (‹Int›).toNat)[i]? = some (.int (0 + i)) := by unfold rngD; rw [List.getElem?_map, List.getElem?_range hi]; rfl
    exact ht i hi _ H' (a.trans (x.trans p.2.1)) (.int _) _ fun σ2 w h1 h2 => ⟨w, cd_turn him p hd (by omega) h1 h2⟩
  · have z := cd_end2 hl p
    exact q _ H' (x.trans z.1) z.2
variable {D : Ends} {tu tw tz : TS}
theorem s_ret {d : PyData} (h : EvD K te σ H d) (k : ∀ v H1, Ex H H1 → Dp K H1 v d → D.rt v H1) : tRet te D σ H := h H (Ex.refl H) _ k
theorem q_asg {i : Nat} {d : PyData} (h : EvD K te σ H d) (k : ∀ v H1, Ex H H1 → Dp K H1 v d → tz D (σ.set i (some v)) H1) : tSeq (tAsg te (gName i)) tz D σ H := h H (Ex.refl H) _ k
theorem s_asg {i : Nat} {d : PyData} (h : EvD K te σ H d) (k : ∀ v H1, Ex H H1 → Dp K H1 v d → D.nx (σ.set i (some v)) H1) : tAsg te (gName i) D σ H := h H (Ex.refl H) _ k
end
end AsKit

set_option maxHeartbeats 4000000
set_option autoImplicit false
/-! words for the defs of the program: names of the top, promises, tests. -/
namespace AsKit
open PySem PySem.Spec PyProof.Rows L2 AsSort
open Evl (Ex Ev EvT EvA)

/-- a def of the top -/
def Df (K : PySem.W.Frag) (mg : Str → Option Value) (x : Str) (st : Stmt) : Prop := ∃ f fd, FunD K x x (defArgs st) (defBody st) (defScope st) [] [] f fd ∧ mg x = some (.ref f)
def blts : List Str := ["isinstance", "int", "bool", "str", "tuple", "list", "dict", "len", "range", "all", "any", "set", "sorted"]
def Bl (mg : Str → Option Value) : Prop := ∀ x, x ∈ blts → mg x = none
/-- a number of the top -/
def Gn (mg : Str → Option Value) (x : Str) (n : Int) : Prop := ∃ u, mg x = some u ∧ RelV (.int n) u
abbrev Cl := C8.Cal
theorem cl_of {P : Program} {w : World} {K : PySem.W.Frag} {mg : Str → Option Value} {base : Heap} {x : Str} {st : Stmt} {N ps : List Str} {k : Nat} {sp : Sp} (D : Df K mg x st) (S : FnScope N ps (defScope st)) (len : ∀ vs H Q E, sp vs H Q E → vs.length = ps.length)
    (hb : ∀ (kV doc pm : Value) (an : Option Addr) (cdv ct : Value) (us : List Value), us.length = ps.length → bindArgs (PySem.W.fnOf x x (defArgs st) (defBody st) (defScope st) .none kV doc pm an cdv ct) ⟨us, []⟩ = pure (ps.zip us))
    (hbody : ∀ (f : Addr) (cdv : Value) (A : Around) (outer : List Env) (s : Shared) (H : Hp) (vs : List V) (Q : VK) (E : XK), Room k (A.deeper (envOfC x (defScope st) s.heap.objs.size f cdv)) → sp vs H Q E →
      ∃ t, PSs (cxOf CX0 P w K mg base N x (defScope st) f cdv A outer s H E).nox (defBody st) t ∧ t { nx := fun _ H' => Q .non H', rt := Q } (start N vs) H) : Cl P w K mg base (k + 1) x sp [] := by
  obtain ⟨f, fd, F, hm⟩ := D
  exact ⟨f, fd, ps, [], F.ok S len fun cdv A outer s H vs Q E hr h => let ⟨t, z, q⟩ := hbody f cdv A outer s H vs Q E hr h; ⟨t, PSs.nox z, q⟩, hm, F.kp, F.bindsN hb, .nil⟩
/-- .. with its address and its parameters' names -/
def Kl (P : Program) (w : World) (K : PySem.W.Frag) (mg : Str → Option Value) (base : Heap) (k : Nat) (x : Str) (ps : List Str) (sp : Sp) : Prop := ∃ f fd, FnOk P w K mg base CX0 k f fd ps sp ∧ mg x = some (.ref f) ∧ PySem.W.keepIn K (.ref f) = true ∧ Binds K fd ps []
theorem kl_of {P : Program} {w : World} {K : PySem.W.Frag} {mg : Str → Option Value} {base : Heap} {x : Str} {st : Stmt} {N ps : List Str} {k : Nat} {sp : Sp} (D : Df K mg x st) (S : FnScope N ps (defScope st)) (len : ∀ vs H Q E, sp vs H Q E → vs.length = ps.length)
    (hb : ∀ (kV doc pm : Value) (an : Option Addr) (cdv ct : Value) (us : List Value), us.length = ps.length → bindArgs (PySem.W.fnOf x x (defArgs st) (defBody st) (defScope st) .none kV doc pm an cdv ct) ⟨us, []⟩ = pure (ps.zip us))
    (hbody : ∀ (f : Addr) (cdv : Value) (A : Around) (outer : List Env) (s : Shared) (H : Hp) (vs : List V) (Q : VK) (E : XK), Room k (A.deeper (envOfC x (defScope st) s.heap.objs.size f cdv)) → sp vs H Q E →
      ∃ t, PSs (cxOf CX0 P w K mg base N x (defScope st) f cdv A outer s H E).nox (defBody st) t ∧ t { nx := fun _ H' => Q .non H', rt := Q } (start N vs) H) : Kl P w K mg base (k + 1) x ps sp := by
  obtain ⟨f, fd, F, hm⟩ := D
  exact ⟨f, fd, F.ok S len fun cdv A outer s H vs Q E hr h => let ⟨t, z, q⟩ := hbody f cdv A outer s H vs Q E hr h; ⟨t, PSs.nox z, q⟩, hm, F.kp, F.bindsN hb⟩
theorem fnok_of {P : Program} {w : World} {K : PySem.W.Frag} {mg : Str → Option Value} {base : Heap} {x : Str} {st : Stmt} {N ps : List Str} {k : Nat} {sp : Sp} {f : Addr} {fd : FuncData} (F : FunD K x x (defArgs st) (defBody st) (defScope st) [] [] f fd) (S : FnScope N ps (defScope st)) (len : ∀ vs H Q E, sp vs H Q E → vs.length = ps.length)
    (hbody : ∀ (f : Addr) (cdv : Value) (A : Around) (outer : List Env) (s : Shared) (H : Hp) (vs : List V) (Q : VK) (E : XK), Room k (A.deeper (envOfC x (defScope st) s.heap.objs.size f cdv)) → sp vs H Q E →
      ∃ t, PSs (cxOf CX0 P w K mg base N x (defScope st) f cdv A outer s H E).nox (defBody st) t ∧ t { nx := fun _ H' => Q .non H', rt := Q } (start N vs) H) : FnOk P w K mg base CX0 (k + 1) f fd ps sp :=
  F.ok S len fun cdv A outer s H vs Q E hr h => let ⟨t, z, q⟩ := hbody f cdv A outer s H vs Q E hr h; ⟨t, PSs.nox z, q⟩
theorem Kl.cl {P : Program} {w : World} {K : PySem.W.Frag} {mg : Str → Option Value} {base : Heap} {k : Nat} {x : Str} {ps : List Str} {sp : Sp} (h : Kl P w K mg base k x ps sp) : Cl P w K mg base k x sp [] := by
  obtain ⟨f, fd, F, hm, kp, b⟩ := h
  exact ⟨f, fd, ps, [], F, hm, kp, b, .nil⟩
section
variable {K : PySem.W.Frag} {σ : L2.St} {H H' : Hp} {ta tb tc te tl : TE} {t u : TT} {d e : PyData} {ds : List PyData}
theorem len_sp {K : PySem.W.Frag} {pre : List PyData → Prop} {g : List PyData → PyData} {n : Nat} (h : ∀ ds, pre ds → ds.length = n) : ∀ vs H Q E, spP K pre g vs H Q E → vs.length = n := fun vs H Q E ⟨ds, a, b, _⟩ => (dpAll_len a).trans (h ds b)
/-- chains -/
theorem d_chI {g1 g2 : Int → Int → Bool} {i j k : Int} (h1 : EvD K ta σ H (.int i)) (h2 : EvD K tb σ H (.int j)) (h3 : g1 i j = true → EvD K tc σ H (.int k)) :
    EvD K (tChain (rI0 fun i j => .bl (g1 i j)) (rI0 fun i j => .bl (g2 i j)) ta tb tc) σ H (.bool (g1 i j && g2 j k)) := fun H1 a Q q =>
  h1 H1 a _ fun v H2 x hd => h2 H2 (a.trans x) _ fun w H3 y he => by
    cases hd
    cases he
    refine ⟨i, j, rfl, rfl, _, rfl, ?_⟩
    cases hg : g1 i j with
    | true =>
      refine h3 hg H3 (a.trans (x.trans y)) _ fun z H4 u hz => ?_
      cases hz
      exact ⟨j, k, rfl, rfl, q _ H4 ((x.trans y).trans u) (by rw [hg]; exact .bl _)⟩
    | false => exact q _ H3 (x.trans y) (by rw [hg]; exact .bl false)
theorem d_chS {g1 g2 : Str → Str → Bool} {i j k : Str} (h1 : EvD K ta σ H (.str i)) (h2 : EvD K tb σ H (.str j)) (h3 : EvD K tc σ H (.str k)) :
    EvD K (tChain (fun x y H Q => ∃ i j, x = .str i ∧ y = .str j ∧ Q (.bl (g1 i j)) H) (fun x y H Q => ∃ i j, x = .str i ∧ y = .str j ∧ Q (.bl (g2 i j)) H) ta tb tc) σ H (.bool (g1 i j && g2 j k)) := fun H1 a Q q =>
  h1 H1 a _ fun v H2 x hd => h2 H2 (a.trans x) _ fun w H3 y he => by
    cases hd
    cases he
    refine ⟨i, j, rfl, rfl, _, rfl, ?_⟩
    cases hg : g1 i j with
    | true =>
      refine h3 H3 (a.trans (x.trans y)) _ fun z H4 u hz => ?_
      cases hz
      exact ⟨j, k, rfl, rfl, q _ H4 ((x.trans y).trans u) (by rw [hg]; exact .bl _)⟩
    | false => exact q _ H3 (x.trans y) (by rw [hg]; exact .bl false)
/-- is d of the built-in class T -/
def isD (T : String) (d : PyData) : Bool := match kitB (tyName d) T with
  | some b => b
  | none => false
def names7 : List String := ["NoneType", "bool", "int", "str", "list", "tuple", "dict"]
theorem ty7 : ∀ d : PyData, tyName d ∈ names7
  | .none => by decide +kernel
  | .bool _ => (by decide +kernel : ("bool" : String) ∈ names7)
  | .int _ => (by decide +kernel : ("int" : String) ∈ names7)
  | .str _ => (by decide +kernel : ("str" : String) ∈ names7)
  | .list _ => (by decide +kernel : ("list" : String) ∈ names7)
  | .tuple _ => (by decide +kernel : ("tuple" : String) ∈ names7)
  | .dict _ => (by decide +kernel : ("dict" : String) ∈ names7)
theorem isD_kit {T : String} (h : (names7.all fun y => (kitB y T).isSome) = true) (d : PyData) : kitB (tyName d) T = some (isD T d) := by
  have z := List.all_eq_true.mp h _ (ty7 d)
  unfold isD
  cases e : kitB (tyName d) T with
  | none => rw [e] at z; cases z
  | some b => rfl
theorem d_isD {T : String} (h : EvD K te σ H d) (hk : (names7.all fun y => (kitB y T).isSome) = true := by decide +kernel) : EvD K (tCB (rIsi K) (tCons te (tCons (tC (.ty T)) tNil))) σ H (.bool (isD T d)) := d_isi h (isD_kit hk d)
theorem isD_str {d : PyData} (h : isD "str" d = true) : ∃ z, d = .str z := by
  have z : ∀ y ∈ names7, y ≠ "str" → kitB y "str" = some false := by decide +kernel
  cases d with
  | str x => exact ⟨x, rfl⟩
  | _ => exact absurd h (by unfold isD; rw [z _ (ty7 _) (by show _ ≠ _; simp only [tyName]; decide)]; decide)
theorem isD_tup {d : PyData} (h : isD "tuple" d = true) : ∃ z, d = .tuple z := by
  have z : ∀ y ∈ names7, y ≠ "tuple" → kitB y "tuple" = some false := by decide +kernel
  cases d with
  | tuple x => exact ⟨x, rfl⟩
  | _ => exact absurd h (by unfold isD; rw [z _ (ty7 _) (by show _ ≠ _; simp only [tyName]; decide)]; decide)
theorem isD_str1 (z : Str) : isD "str" (.str z) = true := (by decide +kernel : (match kitB "str" "str" with | some b => b | none => false) = true)
theorem isD_tup1 (z : List PyData) : isD "tuple" (.tuple z) = true := (by decide +kernel : (match kitB "tuple" "tuple" with | some b => b | none => false) = true)
def one (g : PyData → PyData) : List PyData → PyData
  | [d] => g d
  | _ => .none
def two (g : PyData → PyData → PyData) : List PyData → PyData
  | [d, e] => g d e
  | _ => .none
def three (g : PyData → PyData → PyData → PyData) : List PyData → PyData
  | [d, e, f] => g d e f
  | _ => .none
def four (g : PyData → PyData → PyData → PyData → PyData) : List PyData → PyData
  | [d, e, f, u] => g d e f u
  | _ => .none
/-- ints compared -/
theorem d_cmpI {g : Int → Int → Bool} {i j : Int} (h1 : EvD K ta σ H (.int i)) (h2 : EvD K tb σ H (.int j)) : EvD K (tOp (rI0 fun i j => .bl (g i j)) ta tb) σ H (.bool (g i j)) := d_opI (z := .non) h1 h2 fun _ => .bl _
theorem d_cmpS {g : Str → Str → Bool} {i j : Str} (h1 : EvD K ta σ H (.str i)) (h2 : EvD K tb σ H (.str j)) : EvD K (tOp (fun x y H Q => ∃ i j, x = .str i ∧ y = .str j ∧ Q (.bl (g i j)) H) ta tb) σ H (.bool (g i j)) := d_opS h1 h2 fun _ => .bl _
theorem d_arI {g : Int → Int → Int} {i j : Int} (h1 : EvD K ta σ H (.int i)) (h2 : EvD K tb σ H (.int j)) : EvD K (tOp (rI0 fun i j => .int (g i j)) ta tb) σ H (.int (g i j)) := d_opI (z := .non) h1 h2 fun _ => .int _
/-- an if whose test is known -/
theorem s_ifD {D : Ends} {tu tw : TS} {b : Bool} (h : EvT t σ H b) (h1 : b = true → ∀ H1, Ex H H1 → tu D σ H1) (h2 : b = false → ∀ H1, Ex H H1 → tw D σ H1) : tIfS t tu tw D σ H := Evl.s_if h h1 h2
theorem at_dp {i : Nat} {v : V} (h : σ[i]? = some (some v)) (hd : Dp K H v d) : At K σ H i d := ⟨v, h, hd⟩
theorem s_exprD {D : Ends} (h : EvD K te σ H d) (k : ∀ H1, Ex H H1 → D.nx σ H1) : tDrop te D σ H := h H (Ex.refl H) _ fun _ H1 e _ => k H1 e
theorem q_exprD {D : Ends} {tz : TS} (h : EvD K te σ H d) (k : ∀ H1, Ex H H1 → tz D σ H1) : tSeq (tDrop te) tz D σ H := h H (Ex.refl H) _ fun _ H1 e _ => k H1 e
/-- a list that grows: at l, unknown in H0 -/
def Ac (K : PySem.W.Frag) (H0 : Hp) (l : Addr) (ds : List PyData) (H' : Hp) : Prop := H0 l = none ∧ Ex H0 H' ∧ ∃ acc, H' l = some (.lst acc) ∧ DpAll K H' acc ds
theorem ac_new {H0 H1 : Hp} {l : Addr} (h : H0 l = none) (e : Ex H0 H1) (h2 : H1 l = some (.lst [])) : Ac K H0 l [] H1 := ⟨h, e, [], h2, .nil⟩
theorem Ac.mono {H0 H1 H2 : Hp} {l : Addr} (a : Ac K H0 l ds H1) (e : Ex H1 H2) : Ac K H0 l ds H2 := let ⟨h1, h2, acc, h3, h4⟩ := a; ⟨h1, h2.trans e, acc, e _ _ h3, dpAll_ex e h4⟩
theorem ac_app {H0 H1 : Hp} {l : Addr} {acc : List V} {v : V} (h1 : H0 l = none) (h2 : Ex H0 H1) (h3 : H1 l = some (.lst acc)) (h4 : DpAll K H1 acc ds) (him : immAll ds = true) (hd : imm d = true) (hv : Dp K H1 v d) : Ac K H0 l (ds ++ [d]) (upd H1 l (.lst (acc ++ [v]))) :=
  ⟨h1, Ex.mut h2 h1, acc ++ [v], upd_same, dpAll_snoc (dp_tu (tu_lst h3) hd hv) (dpAll_tu (tu_lst h3) him h4)⟩
/-- l.append(e) -/
theorem s_appD {D : Ends} {i : Nat} {H0 : Hp} {l : Addr} (hσ : σ[i]? = some (some (.ref l))) (a : Ac K H0 l ds H) (h : EvD K te σ H d) (him : immAll ds = true) (hd : imm d = true) (hz : ds.length < 100000) (k : ∀ H1, Ac K H0 l (ds ++ [d]) H1 → D.nx σ H1) :
    tDrop (tBM K "list" rAppend (tVar i) (tCons te tNil)) D σ H := by
  obtain ⟨h1, h2, acc, h3, h4⟩ := a
  refine ⟨_, hσ, .inl ⟨rfl, acc, Evl.sq_of h3⟩, h H (Ex.refl H) _ fun v H1 e hv => ?_⟩
  exact ⟨l, acc, v, rfl, rfl, e l _ h3, Evl.sz_lt (by rw [dpAll_len h4]; exact hz), k _ (ac_app h1 (h2.trans e) (e l _ h3) (dpAll_ex e h4) him hd hv)⟩
theorem ac_dp {H0 H1 : Hp} {l : Addr} (a : Ac K H0 l ds H1) : Dp K H1 (.ref l) (.list ds) := let ⟨_, _, _, h3, h4⟩ := a; .lst (Evl.sq_of h3) h4
/-- for x in a list of data that stays; what is known of it, it had in H0 -/
theorem s_forLD {D : Ends} {tu : TS} {g : TG} {H0 : Hp} {v : V} {i : Nat} (hσ : σ[i]? = some (some v)) (hv : Dp K H0 v (.list ds)) (e : Ex H0 H) (Pv : Nat → L2.St → Hp → Prop) (h0 : Pv 0 σ H) (hx : ∀ j σ' H', Pv j σ' H' → Ex H0 H')
    (hs : ∀ j d x σ' H', ds[j]? = some d → Dp K H' x d → Pv j σ' H' → g x σ' H' fun σ2 H2 => tu { D with nx := Pv (j + 1), ct := Pv (j + 1), bk := D.nx } σ2 H2) (hd : ∀ σ' H', Pv ds.length σ' H' → D.nx σ' H') : tFor (iList K (tVar i)) g tu D σ H := by
  cases hv with
  | lst hq hl =>
    refine ⟨_, hσ, _, rfl, ⟨_, Evl.ex_l e hq⟩, for_list Pv h0 (fun j σ' H' _ p => Evl.ex_l (hx j σ' H' p) hq) (fun j x σ' H' hj p => ?_) fun σ' H' p => hd σ' H' (by rw [← dpAll_len hl]; exact p)⟩
    have hj2 : j < ds.length := by rw [← dpAll_len hl]; exact (List.getElem?_eq_some_iff.mp hj).1
    have hd2 : ds[j]? = some ds[j] := List.getElem?_eq_getElem hj2
    exact hs j _ x σ' H' hd2 (dp_ex (hx j σ' H' p) (dpAll_get hl hj hd2)) p
theorem s_forTD {D : Ends} {tu : TS} {g : TG} {H0 : Hp} {v : V} {i : Nat} (hσ : σ[i]? = some (some v)) (hv : Dp K H0 v (.tuple ds)) (e : Ex H0 H) (Pv : Nat → L2.St → Hp → Prop) (h0 : Pv 0 σ H) (hx : ∀ j σ' H', Pv j σ' H' → Ex H0 H')
    (hs : ∀ j d x σ' H', ds[j]? = some d → Dp K H' x d → Pv j σ' H' → g x σ' H' fun σ2 H2 => tu { D with nx := Pv (j + 1), ct := Pv (j + 1), bk := D.nx } σ2 H2) (hd : ∀ σ' H', Pv ds.length σ' H' → D.nx σ' H') : tFor (iTup K (tVar i)) g tu D σ H := by
  cases hv with
  | tup hq hl =>
    refine ⟨_, hσ, _, rfl, ⟨_, Evl.ex_t e hq⟩, for_tup Pv h0 (fun j σ' H' _ p => Evl.ex_t (hx j σ' H' p) hq) (fun j x σ' H' hj p => ?_) fun σ' H' p => hd σ' H' (by rw [← dpAll_len hl]; exact p)⟩
    have hj2 : j < ds.length := by rw [← dpAll_len hl]; exact (List.getElem?_eq_some_iff.mp hj).1
    have hd2 : ds[j]? = some ds[j] := List.getElem?_eq_getElem hj2
    exact hs j _ x σ' H' hd2 (dp_ex (hx j σ' H' p) (dpAll_get hl hj hd2)) p
/-- ints, where the operation asks something of them -/
theorem d_opC {C : Int → Int → Prop} {g : Int → Int → Int} {i j : Int} (h : EvD K ta σ H (.int i)) (h2 : EvD K tb σ H (.int j)) (hc : C i j) : EvD K (tOp (rI C fun i j => .int (g i j)) ta tb) σ H (.int (g i j)) := fun H1 a Q q =>
  h H1 a _ fun v H2 x hd => h2 H2 (a.trans x) _ fun w H3 y he => by
    cases hd
    cases he
    exact ⟨i, j, rfl, rfl, hc, q _ H3 (x.trans y) (.int _)⟩
/-- int(x) -/
def rInt1 : List V → Hp → VK → Prop := fun xs H Q => (∃ i, xs = [.int i] ∧ Q (.int i) H) ∨ ∃ k, xs = [.bl k] ∧ Q (.int (if k then 1 else 0)) H
theorem d_int1 {i : Int} (h : EvD K te σ H (.int i)) : EvD K (tCB rInt1 (tCons te tNil)) σ H (.int i) := fun H1 a Q q =>
  h H1 a _ fun v H2 x hd => by
    cases hd
    exact .inl ⟨i, rfl, q _ H2 x (.int i)⟩
/-- xs[j] = a number -/
theorem q_setI {D : Ends} {tz : TS} {i : Nat} {l : Addr} {xs : List V} {j : Nat} {x : Int} (hσ : σ[i]? = some (some (.ref l))) (hl : H l = some (.lst xs)) (h : EvD K te σ H (.int x)) (hi : EvD K tb σ H (.int (j : Int))) (hj : j < xs.length) (k : ∀ H1, Ex H H1 → tz D σ (upd H1 l (.lst (xs.set j (.int x))))) :
    tSeq (tAsg te (gSub (tVar i) tb rSetL)) tz D σ H := Evl.q_setL hl (ev_int h) (Evl.ev_var hσ) (ev_int hi) hj k
theorem s_setI {D : Ends} {i : Nat} {l : Addr} {xs : List V} {j : Nat} {x : Int} (hσ : σ[i]? = some (some (.ref l))) (hl : H l = some (.lst xs)) (h : EvD K te σ H (.int x)) (hi : EvD K tb σ H (.int (j : Int))) (hj : j < xs.length) (k : ∀ H1, Ex H H1 → D.nx σ (upd H1 l (.lst (xs.set j (.int x))))) :
    tAsg te (gSub (tVar i) tb rSetL) D σ H := Evl.s_setL hl (ev_int h) (Evl.ev_var hσ) (ev_int hi) hj k
theorem dp_ints {G : Hp} : ∀ ns : List Int, DpAll K G (ns.map V.int) (ns.map PyData.int)
  | [] => .nil
  | n :: ns => .cons (.int n) (dp_ints ns)
/-- a tuple of two taken apart -/
theorem g_two {i j : Nat} {a b : PyData} {x : V} {k : L2.St → Hp → Prop} (hd : Dp K H x (.tuple [a, b])) (h : ∀ va vb, Dp K H va a → Dp K H vb b → k ((σ.set i (some va)).set j (some vb)) H) : gTup K 2 (gCons (gName i) (gCons (gName j) gNil)) x σ H k := by
  cases hd with
  | tup hs hx =>
    cases hx with
    | cons h1 hx =>
      cases hx with
      | cons h2 hx =>
        cases hx
        exact ⟨_, _, rfl, hs, rfl, _, _, rfl, _, _, rfl, rfl, h _ _ h1 h2⟩
theorem g_three {i j l : Nat} {a b c : PyData} {x : V} {k : L2.St → Hp → Prop} (hd : Dp K H x (.tuple [a, b, c])) (h : ∀ va vb vc, Dp K H va a → Dp K H vb b → Dp K H vc c → k (((σ.set i (some va)).set j (some vb)).set l (some vc)) H) : gTup K 3 (gCons (gName i) (gCons (gName j) (gCons (gName l) gNil))) x σ H k := by
  cases hd with
  | tup hs hx =>
    cases hx with
    | cons h1 hx =>
      cases hx with
      | cons h2 hx =>
        cases hx with
        | cons h3 hx =>
          cases hx
          exact ⟨_, _, rfl, hs, rfl, _, _, rfl, _, _, rfl, _, _, rfl, rfl, h _ _ _ h1 h2 h3⟩
end
section
variable {X : Cx} {e : Expr} {es : List Expr} {te : TE} {ta : TA} {p pos : Pos}
theorem pe_gn {x : Str} {n : Int} (h : Gn X.mg x n) (hg : Gl X x := by rfl) (hd : (x == ("__debug__" : Str)) = false := by decide) : PE X (.Name x pos) (tC (.int n)) := C8.pe_gc hg h hd
/-- isinstance(e, T) -/
theorem pe_isi {x : Str} {T : String} {p2 : Pos} (hb : Bl X.mg) (he : PE X e te) (hg : Gl X "isinstance" := by rfl) (hg2 : Gl X x := by rfl) (hx : x ∈ blts := by decide +kernel) (hv : bootBuiltins x = some (.type T) := by decide +kernel) (hn : x ≠ "__name__" := by decide) (hd : (x == ("__debug__" : Str)) = false := by decide)
    (hs : starEach [e, .Name x p2] X.env = (false, eval e X.env) :: starEach [.Name x p2] X.env := by rfl) : PE X (.Call (.Name "isinstance" p) [e, .Name x p2] [] pos) (tCB (rIsi X.K) (tCons te (tCons (tC (.ty T)) tNil))) :=
  pe_callB call_isi hg (hb _ (by decide +kernel)) (by decide +kernel) (pa_cons he (pa_cons (pe_bltn hg2 (hb _ hx) hv rfl hn hd) pa_nil) hs) (he := hs)
theorem pe_lenQ (hb : Bl X.mg) (he : PE X e te) (hg : Gl X "len" := by rfl) (hs : starEach [e] X.env = (false, eval e X.env) :: starEach [] X.env := by rfl) : PE X (.Call (.Name "len" p) [e] [] pos) (tCB (rLenQ X.K) (tCons te tNil)) :=
  pe_callB call_len_seq hg (hb _ (by decide +kernel)) (by decide +kernel) (pa_cons he pa_nil hs) (he := hs)
theorem pe_lenS (hb : Bl X.mg) (he : PE X e te) (hg : Gl X "len" := by rfl) (hs : starEach [e] X.env = (false, eval e X.env) :: starEach [] X.env := by rfl) : PE X (.Call (.Name "len" p) [e] [] pos) (tCB rLenTx (tCons te tNil)) :=
  pe_callB call_len_str hg (hb _ (by decide +kernel)) (by decide +kernel) (pa_cons he pa_nil hs) (he := hs)
theorem pe_allL (hc : X.calm = true) (hb : Bl X.mg) (he : PE X e te) (hg : Gl X "all" := by rfl) (hs : starEach [e] X.env = (false, eval e X.env) :: starEach [] X.env := by rfl) : PE X (.Call (.Name "all" p) [e] [] pos) (tCB (rAll X.K) (tCons te tNil)) :=
  pe_callB (cr_all hc) hg (hb _ (by decide +kernel)) (by decide +kernel) (pa_cons he pa_nil hs) (he := hs)
theorem pe_anyL (hc : X.calm = true) (hb : Bl X.mg) (he : PE X e te) (hg : Gl X "any" := by rfl) (hs : starEach [e] X.env = (false, eval e X.env) :: starEach [] X.env := by rfl) : PE X (.Call (.Name "any" p) [e] [] pos) (tCB (rAny X.K) (tCons te tNil)) :=
  pe_callB (cr_any hc) hg (hb _ (by decide +kernel)) (by decide +kernel) (pa_cons he pa_nil hs) (he := hs)
theorem pe_tupQ (hb : Bl X.mg) (he : PE X e te) (hg : Gl X "tuple" := by rfl) (hs : starEach [e] X.env = (false, eval e X.env) :: starEach [] X.env := by rfl) : PE X (.Call (.Name "tuple" p) [e] [] pos) (tCB (rTupQ X.K) (tCons te tNil)) :=
  pe_callTy call_tuple_of hg (hb _ (by decide +kernel)) (by decide +kernel) (pa_cons he pa_nil hs) (he := hs)
theorem pe_int1 (hb : Bl X.mg) (he : PE X e te) (hg : Gl X "int" := by rfl) (hs : starEach [e] X.env = (false, eval e X.env) :: starEach [] X.env := by rfl) : PE X (.Call (.Name "int" p) [e] [] pos) (tCB rInt1 (tCons te tNil)) :=
  pe_callTy call_int1 hg (hb _ (by decide +kernel)) (by decide +kernel) (pa_cons he pa_nil hs) (he := hs)
/-- a list comprehension; j: the slot of its one name -/
theorem pe_lcn {elt iter : Expr} {ifs : List Expr} {scope : Scope} {pos : Pos} {wi : TI} {tt : TT} {te : TE} {y : Str} {yp : Pos} (j : Nat) (hN : X.N.Nodup) (hi : PI X (.Name y yp) iter wi)
    (ht : ∀ (s : Shared) (H : Hp) (C : Addr) (cl : List (Str × Addr)) (fp : List Addr), PTs (X.blk s H scope (compEnvC scope cl C X.env) fp) ifs tt)
    (he : ∀ (s : Shared) (H : Hp) (C : Addr) (cl : List (Str × Addr)) (fp : List Addr), PE (X.blk s H scope (compEnvC scope cl C X.env) fp) elt te)
    (hg : ∀ (s : Shared) (H : Hp) (C : Addr) (cl : List (Str × Addr)) (fp : List Addr), PG (X.blk s H scope (compEnvC scope cl C X.env) fp) (.Name y yp) (gName j)) (ok : BlkOk X.N X.env.scope scope [(y, j)]) (hc : X.calm = true)
    (hs : ∀ x, foldedSetIterable iter X.env x = pure x := by intro _; rfl) :
    PE X (.ListComp elt [⟨.Name y yp, iter, ifs, 0⟩] scope pos) (tLc wi (gName j) tt te [j]) := pe_lc (own := [(y, j)]) hc hN hi ok hg ht he hs
/-- y = [..], j the slot of the comprehension's one name -/
theorem ps_setLcn {i : Nat} {y : Str} {py : Pos} {elt iter : Expr} {ifs : List Expr} {scope : Scope} {pos spos : Pos} {wi : TI} {tt : TT} {te : TE} {y2 : Str} {yp : Pos} (j : Nat) (hN : X.N.Nodup) (hi : PI X (.Name y2 yp) iter wi)
    (ht : ∀ (s : Shared) (H : Hp) (C : Addr) (cl : List (Str × Addr)) (fp : List Addr), PTs (X.blk s H scope (compEnvC scope cl C X.env) fp) ifs tt)
    (he : ∀ (s : Shared) (H : Hp) (C : Addr) (cl : List (Str × Addr)) (fp : List Addr), PE (X.blk s H scope (compEnvC scope cl C X.env) fp) elt te)
    (hg : ∀ (s : Shared) (H : Hp) (C : Addr) (cl : List (Str × Addr)) (fp : List Addr), PG (X.blk s H scope (compEnvC scope cl C X.env) fp) (.Name y2 yp) (gName j)) (ok : BlkOk X.N X.env.scope scope [(y2, j)]) (hc : X.calm = true)
    (hy : X.N[i]? = some y) (hyl : X.env.scope.names.lookup y = some .local) (hsw : swapsWith (.ListComp elt [⟨.Name y2 yp, iter, ifs, 0⟩] scope pos) (some (.Name y py)) spos.line X.env = pure true)
    (hs : ∀ x, foldedSetIterable iter X.env x = pure x := by intro _; rfl) :
    PS X (.Assign [.Name y py] (.ListComp elt [⟨.Name y2 yp, iter, ifs, 0⟩] scope pos) spos) (tAsg (tLc wi (gName j) tt te [j]) (gName i)) := ps_setLc (own := [(y2, j)]) hc hN hy hyl hsw hi ok hg ht he hs
end
section
variable {K : PySem.W.Frag} {H : Hp}
theorem dp1 {vs : List V} {a : PyData} (h : DpAll K H vs [a]) : ∃ x, vs = [x] ∧ Dp K H x a := by
  cases h with
  | cons h1 h =>
    cases h
    exact ⟨_, rfl, h1⟩
theorem dp2 {vs : List V} {a b : PyData} (h : DpAll K H vs [a, b]) : ∃ x y, vs = [x, y] ∧ Dp K H x a ∧ Dp K H y b := by
  cases h with
  | cons h1 h =>
    obtain ⟨y, rfl, h2⟩ := dp1 h
    exact ⟨_, _, rfl, h1, h2⟩
theorem dp3 {vs : List V} {a b c : PyData} (h : DpAll K H vs [a, b, c]) : ∃ x y z, vs = [x, y, z] ∧ Dp K H x a ∧ Dp K H y b ∧ Dp K H z c := by
  cases h with
  | cons h1 h =>
    obtain ⟨y, z, rfl, h2, h3⟩ := dp2 h
    exact ⟨_, _, _, rfl, h1, h2, h3⟩
theorem dp4 {vs : List V} {a b c d : PyData} (h : DpAll K H vs [a, b, c, d]) : ∃ x y z u, vs = [x, y, z, u] ∧ Dp K H x a ∧ Dp K H y b ∧ Dp K H z c ∧ Dp K H u d := by
  cases h with
  | cons h1 h =>
    obtain ⟨y, z, u, rfl, h2, h3, h4⟩ := dp3 h
    exact ⟨_, _, _, _, rfl, h1, h2, h3, h4⟩
/-- a text, if at all, of a length that can be told -/
def Tx (d : PyData) : Prop := ∀ z, d = .str z → z.length ≤ 40000
end
end AsKit

set_option maxHeartbeats 4000000
set_option autoImplicit true
/-! len(set(xs)), xs a tuple of tuples of texts and ints. -/
namespace AsSet
open PySem PySem.Spec PyProof.Rows L2

/-- the tuple at b holds the ints and texts ks -/
abbrev Tk (P : Program) (w : World) (h : Heap) (ks : List Key) (b : Addr) : Prop := IsTupleKey (mixKind P w) h ks b
abbrev hk (P : Program) (w : World) (ks : List Key) : Int := tupleKeyHash (mixKind P w) ks
abbrev KT := Addr × List Key

section
variable {P : Program} {w : World} {A : Around} {E : Value → Shared → Prop} {s : Shared}
theorem items_kinds {ks : List Key} {vs : List Value} (h : ItemsAre (mixKind P w) ks vs) : ∀ v ∈ vs, (∃ i t, v = Value.int i t) ∨ ∃ x t, v = Value.str x t := by
  induction h with
  | nil => intro v hv; cases hv
  | @cons k v ks vs h1 _ ih =>
    intro u hu
    rcases List.mem_cons.mp hu with e | hu
    · rw [e]
      rcases keyIs_shape (show keyIs k v = true from h1) with ⟨i, t, _, e2⟩ | ⟨x, t, _, e2⟩
      · exact .inl ⟨i, t, e2⟩
      · exact .inr ⟨x, t, e2⟩
    · exact ih u hu
theorem noClass_item (n : Nat) {v : Value} (h : (∃ i t, v = Value.int i t) ∨ ∃ x t, v = Value.str x t) : ofAClassStatement n v = pure false := by
  rcases h with ⟨i, t, rfl⟩ | ⟨x, t, rfl⟩ <;> cases n <;> rfl
theorem byValue_item (n : Nat) {v : Value} (h : (∃ i t, v = Value.int i t) ∨ ∃ x t, v = Value.str x t) : ∃ b, hashByValue n v = pure b := by
  rcases h with ⟨i, t, rfl⟩ | ⟨x, t, rfl⟩
  · exact ⟨true, by cases n <;> rfl⟩
  · exact ⟨false, by cases n <;> rfl⟩
theorem noClass {ks : List Key} {b : Addr} {Q : Bool → Shared → Prop} (T : Tk P w s.heap ks b) (q : Q false s) : wpAny (model P w) A (ofAClassStatement 8 (.ref b)) Q E s := by
  have ty := T.typeIs
  obtain ⟨o, its, n, ho, _, hd, hi⟩ := T
  have hall := items_kinds hi
  unfold ofAClassStatement
  refine wpAny_bind (wpAny_typeOf ty ?_)
  dsimp only
  simp only [show (("tuple" : String) == "tuple") = true from by decide, if_true, Bool.not_true, Bool.false_eq_true, if_false]
  try refine wpAny_bind (wpAny_pure ?_)
  try simp only [Bool.not_true, Bool.false_eq_true, if_false]
  show wpAny _ _ (seqItems? (.ref b) >>= _) _ _ s
  refine wpAny_bind (wpAny_seqItems ho hd (wpAny_bind ?_))
  show wpAny _ _ (forIn its _ _) _ _ s
  rw [← Array.forIn_toList]
  refine wpAny_forIn_list _ (fun l r z => r.1 = none ∧ z = s ∧ ∀ v ∈ l, (∃ i t, v = Value.int i t) ∨ ∃ x t, v = Value.str x t) _ (fun v l r z hz => ?_) (fun r z hz => ?_) _ _ ⟨rfl, rfl, hall⟩
  · obtain ⟨_, rfl, hv⟩ := hz
    rw [noClass_item _ (hv v List.mem_cons_self)]
    refine wpAny_bind (wpAny_pure ?_)
    simp only [Bool.false_eq_true, if_false]
    exact wpAny_pure ⟨rfl, rfl, fun u hu => hv u (List.mem_cons_of_mem _ hu)⟩
  · obtain ⟨r1, r2⟩ := r
    obtain ⟨e, rfl, _⟩ := hz
    simp only at e
    subst e
    exact wpAny_pure q
theorem byValue {ks : List Key} {b : Addr} {Q : Bool → Shared → Prop} (T : Tk P w s.heap ks b) (q : ∀ c, Q c s) : wpAny (model P w) A (hashByValue 8 (.ref b)) Q E s := by
  have ty := T.typeIs
  obtain ⟨o, its, n, ho, _, hd, hi⟩ := T
  have hall := items_kinds hi
  unfold hashByValue
  refine wpAny_bind (wpAny_specialOf ty F.slot_tuple_hash.lookup ?_)
  show wpAny _ _ (seqItems? (.ref b) >>= _) _ _ s
  refine wpAny_bind (wpAny_seqItems ho hd (wpAny_bind ?_))
  show wpAny _ _ (forIn its _ _) _ _ s
  rw [← Array.forIn_toList]
  refine wpAny_forIn_list _ (fun l r z => r.1 = none ∧ z = s ∧ ∀ v ∈ l, (∃ i t, v = Value.int i t) ∨ ∃ x t, v = Value.str x t) _ (fun v l r z hz => ?_) (fun r z hz => ?_) _ _ ⟨rfl, rfl, hall⟩
  · obtain ⟨_, rfl, hv⟩ := hz
    obtain ⟨c, ec⟩ := byValue_item 7 (hv v List.mem_cons_self)
    rw [ec]
    refine wpAny_bind (wpAny_pure ?_)
    cases c with
    | true =>
      simp only [Bool.not_true, Bool.false_eq_true, if_false]
      exact wpAny_pure ⟨rfl, rfl, fun u hu => hv u (List.mem_cons_of_mem _ hu)⟩
    | false =>
      simp only [Bool.not_false, if_true]
      exact wpAny_pure (show wpAny _ _ (pure false) Q E _ from wpAny_pure (q false))
  · obtain ⟨r1, r2⟩ := r
    obtain ⟨e, rfl, _⟩ := hz
    simp only at e
    subst e
    exact wpAny_pure (q true)
/-- the search among such tuples shows nothing of the table -/
theorem unseen {ks : List Key} {b : Addr} {Q : Bool → Shared → Prop} (T : Tk P w s.heap ks b) : ∀ (ys : List Value), (∀ y ∈ ys, ∃ k c, y = Value.ref c ∧ Tk P w s.heap k c) → Q false s → wpAny (model P w) A (searchCouldBeSeen (.ref b) ys) Q E s := by
  intro ys hys q
  unfold searchCouldBeSeen
  refine wpAny_bind (wpAny_forIn_list _ (fun l r z => r.1 = none ∧ z = s ∧ ∀ y ∈ l, ∃ k c, y = Value.ref c ∧ Tk P w s.heap k c) _ (fun y l r z hz => ?_) (fun r z hz => ?_) _ _ ⟨rfl, rfl, hys⟩)
  · obtain ⟨_, rfl, hy⟩ := hz
    obtain ⟨k, c, rfl, Tc⟩ := hy y List.mem_cons_self
    have keep : (none : Option Bool) = none ∧ z = z ∧ ∀ y ∈ l, ∃ k c, y = Value.ref c ∧ Tk P w z.heap k c := ⟨rfl, rfl, fun u hu => hy u (List.mem_cons_of_mem _ hu)⟩
    dsimp only
    cases hv : (b == c || (carriedByValue (.ref b) && carriedByValue (.ref c))) with
    | true => exact wp_if_pos rfl (wpAny_pure keep)
    | false =>
      refine wp_if_neg (by decide) (wpAny_bind (wpAny_eqIsQuiet_tuple T ?_))
      simp only [Bool.not_true, Bool.false_eq_true, if_false]
      refine wpAny_bind (wpAny_eqIsQuiet_tuple Tc ?_)
      simp only [Bool.not_true, Bool.false_eq_true, if_false]
      refine wpAny_bind (noClass T ?_)
      simp only [Bool.false_eq_true, if_false]
      refine wpAny_bind (noClass Tc ?_)
      simp only [Bool.false_eq_true, if_false]
      exact wpAny_pure keep
  · obtain ⟨r1, r2⟩ := r
    obtain ⟨e, rfl, _⟩ := hz
    simp only at e
    subst e
    exact wpAny_pure q

/-! ### the set's object -/
abbrev hs (P : Program) (w : World) (L : List KT) : List Int := L.map fun p => hk P w p.2
/-- at a stands a set of the tuples L; es its entries, t its table -/
structure TSet (P : Program) (w : World) (h : Heap) (a : Addr) (L : List KT) (es : Array (Int × Value)) (t : SetTable) : Prop where
  obj : ∃ o ep, h.get? a = some o ∧ o.ExactSet ∧ o.data = .set es ep t
  ents : es.toList = L.map fun p => (hk P w p.2, Value.ref p.1)
  tab : TabOk t (hs P w L)
  dist : (L.map (·.2)).Nodup
  tups : ∀ p ∈ L, Tk P w h p.2 p.1
  room : L.length * 5 < t.mask * 3
  few : L.length < 64
variable {a : Addr} {L : List KT} {es : Array (Int × Value)} {t : SetTable}
theorem ents_len (e : es.toList = L.map fun p => (hk P w p.2, Value.ref p.1)) : es.size = L.length := by
  rw [← Array.length_toList, e, List.length_map]
theorem ents_at (e : es.toList = L.map fun p => (hk P w p.2, Value.ref p.1)) {i : Nat} {p : KT} (h : L[i]? = some p) : es[i]? = some (hk P w p.2, Value.ref p.1) := by
  rw [← Array.getElem?_toList, e, List.getElem?_map, h]
  rfl
theorem tab_len (T : TabOk t (hs P w L)) : t.place.toList.length = L.length := by
  rw [Array.length_toList, T.sz, List.length_map]
theorem fits_of (e : es.size = L.length) (T : TabOk t (hs P w L)) (h : L.length ≤ t.mask) : t.fits es.size = true := by
  have z : t.place.size = L.length := by
    have q := T.sz
    rwa [List.length_map] at q
  unfold SetTable.fits SetTable.fill
  rw [T.dm, Bool.and_eq_true, beq_iff_eq, decide_eq_true_eq]
  exact ⟨z.trans e.symm, by rw [z]; exact h⟩
theorem TSet.fit (R : TSet P w s.heap a L es t) : t.fits es.size = true := fits_of (ents_len R.ents) R.tab (by have := R.room; omega)

/-- the c-th place asked for the hash h -/
abbrev pr (t : SetTable) (h : Int) (c : Nat) : SetTable.Probe := nth t.mask (runAt t.mask (SetTable.bits h % (t.mask + 1)) (SetTable.bits h)) c
theorem pr_add (t : SetTable) (h : Int) (c q : Nat) : nth t.mask (pr t h c) q = pr t h (c + q) := (nth_add t.mask c _ q).symm
theorem pr_way (t : SetTable) (h : Int) (c : Nat) : (pr t h c).j = way t.mask h c := rfl
theorem pr_dummy (t : SetTable) (h : Int) (c : Nat) : (pr t h c).dummy = none := by
  have go : ∀ (m n : Nat) (p : SetTable.Probe), p.dummy = none → (nth m p n).dummy = none := fun m n => by
    induction n with
    | zero => exact fun p e => e
    | succ n ih =>
      refine fun p e => ih (adv m p) ?_
      unfold adv
      split <;> exact e
  exact go _ _ _ rfl

/-- what the search for k finds, from the c-th place on: N the first free place -/
theorem find_from (R : TSet P w s.heap a L es t) {x : Addr} {k : List Key} (T : Tk P w s.heap k x) (hu : A.units < cLine) {N : Nat} (hN : N < 10 * SetTable.turns t.mask) (hfree : way t.mask (hk P w k) N ∉ t.place.toList)
    (hocc : ∀ c, c < N → way t.mask (hk P w k) c ∈ t.place.toList) {Q : SetFound → Shared → Prop} (yes : k ∈ L.map (·.2) → Q (.there none) s) (no : k ∉ L.map (·.2) → Q (.free (way t.mask (hk P w k) N) false) s) (f : Nat) :
    ∀ (c : Nat) (st : Option SetTable.Probe), st.getD (t.probeStart (hk P w k)) = pr t (hk P w k) c → c ≤ N → N - c < f →
      (∀ (i : Nat) (p : KT), L[i]? = some p → p.2 = k → ∃ c', c ≤ c' ∧ c' < N ∧ t.place.toList[i]? = some (way t.mask (hk P w k) c')) → wpAny (model P w) A (setSearchFrom a (.ref x) (hk P w k) true f st) Q E s := by
  obtain ⟨o, ep, ho, hex, hd⟩ := R.obj
  induction f with
  | zero => exact fun c st _ _ z _ => absurd z (Nat.not_lt_zero _)
  | succ f ih =>
    intro c st hst hc hf hthere
    have gw : ¬ t.gaveWay = true := by
      unfold SetTable.gaveWay
      rw [mask_odd R.tab.mok]
      decide
    rw [setSearchFrom_succ]
    refine wpAny_bind (wpAny_setState_of ho hd R.fit ?_)
    dsimp only
    refine wp_if_neg gw ?_
    try refine wpAny_bind (wpAny_pure ?_)
    have look : ∀ (i : Nat) (p : KT), L[i]? = some p → (es[i]?.map (·.1)).getD 0 = hk P w p.2 := fun i p hp => by rw [ents_at R.ents hp]; rfl
    have ways := go_spec t R.tab.ris R.tab.dm (fun (i : Nat) => (es[i]?.map (·.1)).getD 0) (hk P w k) (10 * SetTable.turns t.mask) (N - c) (pr t (hk P w k) c) (pr_dummy _ _ _) (by omega)
      (fun q hq => by rw [pr_add, pr_way]; exact hocc _ (by omega)) (by rw [pr_add, pr_way, Nat.add_sub_cancel' hc]; exact hfree)
    -- a place of k is not left behind
    have notyet : ∀ (q : Nat), (∀ (k' i' : Nat), k' < q → t.place.toList[i']? = some (nth t.mask (pr t (hk P w k) c) k').j → (es[i']?.map (·.1)).getD 0 ≠ hk P w k) → ∀ (i : Nat) (p : KT), L[i]? = some p → p.2 = k → ∃ c', c + q ≤ c' ∧ c' < N ∧ t.place.toList[i]? = some (way t.mask (hk P w k) c') := fun q hq i p hp ek => by
      obtain ⟨c', h1, h2, h3⟩ := hthere i p hp ek
      refine ⟨c', Nat.le_of_not_lt fun z => ?_, h2, h3⟩
      refine hq (c' - c) i (by omega) ?_ (by rw [look i p hp, ek])
      rw [pr_add, pr_way, Nat.add_sub_cancel' h1]
      exact h3
    rcases ways with ⟨q, i, hq, hi, _, hno, hgo⟩ | ⟨hno, hgo⟩
    · have hp1 : t.probe (fun (i : Nat) => (es[i]?.map (·.1)).getD 0) (hk P w k) (st.getD (t.probeStart (hk P w k))) = some (.candidate (way t.mask (hk P w k) (c + q)) i (pr t (hk P w k) (c + (q + 1)))) := by
        have z : t.probe (fun (i : Nat) => (es[i]?.map (·.1)).getD 0) (hk P w k) (pr t (hk P w k) c) = _ := hgo
        rw [hst, z, pr_add, pr_add]
      rw [hp1]
      dsimp only
      rw [pr_add, pr_way] at hi
      have hil : i < L.length := by
        have z := (List.getElem?_eq_some_iff.mp hi).1
        rwa [tab_len R.tab] at z
      obtain ⟨p, hp⟩ : ∃ p, L[i]? = some p := ⟨_, List.getElem?_eq_getElem hil⟩
      have pm := List.mem_of_getElem? hp
      have live : t.slot (way t.mask (hk P w k) (c + q)) = .live i := slot_live R.tab.ris hi
      have main : wpAny (model P w) A (searchRest a (.ref x) (hk P w k) true f es t (way t.mask (hk P w k) (c + q)) i (pr t (hk P w k) (c + (q + 1)))) Q E s := by
        unfold searchRest
        rw [ents_at R.ents hp]
        dsimp only
        refine wpAny_bind (wpAny_holding (wpAny_eqBool_tuple hu (R.tups p pm) T (wpAny_bind (wpAny_setState_of ho hd R.fit ?_))))
        dsimp only
        cases hb : decide (p.2 = k) with
        | true =>
          have ek := of_decide_eq_true hb
          refine wp_if_pos (by simp) (wpAny_pure (yes ?_))
          rw [← ek]
          exact List.mem_map_of_mem (f := (·.2)) pm
        | false =>
          have nk := of_decide_eq_false hb
          refine wp_if_neg (by simp) ?_
          try refine wpAny_bind (wpAny_pure ?_)
          rw [show t.sameMemory t.moves t.mask = some true from if_pos (beq_self_eq_true _)]
          dsimp only
          simp only [if_true, live, ents_at R.ents hp]
          refine wpAny_bind (wpAny_isSame_ref_self (wpAny_bind (wpAny_pure ?_)))
          simp only [if_true]
          refine wp_if_neg (by simp) (ih (c + (q + 1)) _ rfl (by omega) (by omega) fun j p' hp' ek => ?_)
          obtain ⟨c', h1, h2, h3⟩ := notyet q hno j p' hp' ek
          refine ⟨c', ?_, h2, h3⟩
          rcases Nat.lt_or_ge (c + q) c' with z | z
          · omega
          · exfalso
            have ec : c' = c + q := Nat.le_antisymm z h1
            rw [ec] at h3
            have l2 := slot_live R.tab.ris h3
            rw [live] at l2
            injection l2 with e2
            rw [← e2, hp] at hp'
            exact nk ((congrArg Prod.snd (Option.some.inj hp')).trans ek)
      by_cases hl : t.led = true
      · refine wp_if_neg (by simp [hl]) ?_
        try refine wpAny_bind (wpAny_pure ?_)
        exact main
      · refine wp_if_pos (by simp [hl]) (wpAny_bind (unseen T _ (fun y hy => ?_) ?_))
        · obtain ⟨e, he, ey⟩ := List.mem_map.mp hy
          have he2 : e ∈ es.toList := by
            have z : e ∈ es ∧ e.1 = hk P w k := by simpa using he
            simpa using z.1
          rw [R.ents] at he2
          obtain ⟨p2, hp2, e2⟩ := List.mem_map.mp he2
          exact ⟨p2.2, p2.1, by rw [← ey, ← e2], R.tups p2 hp2⟩
        · refine wp_if_neg (by decide) ?_
          try refine wpAny_bind (wpAny_pure ?_)
          exact main
    · have hp1 : t.probe (fun (i : Nat) => (es[i]?.map (·.1)).getD 0) (hk P w k) (st.getD (t.probeStart (hk P w k))) = some (.empty (way t.mask (hk P w k) N) none) := by
        have z : t.probe (fun (i : Nat) => (es[i]?.map (·.1)).getD 0) (hk P w k) (pr t (hk P w k) c) = _ := hgo
        rw [hst, z, pr_add, pr_way, Nat.add_sub_cancel' hc]
      rw [hp1]
      dsimp only
      refine wpAny_pure (no fun hm => ?_)
      obtain ⟨p, pm, ek⟩ := List.mem_map.mp hm
      obtain ⟨i, hil, ei⟩ := List.getElem_of_mem pm
      have hp : L[i]? = some p := by rw [List.getElem?_eq_getElem hil, ei]
      obtain ⟨c', h1, h2, h3⟩ := notyet (N - c) hno i p hp ek
      omega
/-- the search that adding asks for -/
theorem find_all (R : TSet P w s.heap a L es t) {x : Addr} {k : List Key} (T : Tk P w s.heap k x) (hu : A.units < cLine) {Q : SetFound → Shared → Prop} (yes : k ∈ L.map (·.2) → Q (.there none) s)
    (no : ∀ N, k ∉ L.map (·.2) → way t.mask (hk P w k) N ∉ t.place.toList → (∀ c, c < N → way t.mask (hk P w k) c ∈ t.place.toList) → Q (.free (way t.mask (hk P w k) N) false) s) :
    wpAny (model P w) A (setSearch a (.ref x) (hk P w k) true) Q E s := by
  have hr := R.room
  obtain ⟨N, hN, hfree, hocc⟩ := R.tab.first (by rw [List.length_map]; omega) (hk P w k)
  have small : 10 * SetTable.turns t.mask ≤ 1420 := by
    unfold SetTable.turns
    rcases R.tab.mok with e | e | e <;> omega
  unfold setSearch
  refine find_from R T hu hN hfree hocc yes (fun n => no N n hfree hocc) 100000 0 none rfl (Nat.zero_le _) (by omega) fun i p hp ek => ?_
  have hil : i < t.place.toList.length := by
    rw [tab_len R.tab]
    exact (List.getElem?_eq_some_iff.mp hp).1
  have hj := List.getElem?_eq_getElem hil
  obtain ⟨c, hc, e⟩ := R.tab.before hfree (show (hs P w L)[i]? = some (hk P w k) by rw [List.getElem?_map, hp, ← ek]; rfl) hj
  exact ⟨c, Nat.zero_le _, hc, by rw [hj, e]⟩

/-! ### the table laid anew -/
theorem take_all (L : List KT) : ∀ n, n ≤ L.length → (List.range n).filterMap (fun i => L[i]?) = L.take n
  | 0, _ => rfl
  | n + 1, h => by
    have hn : L[n]? = some L[n] := List.getElem?_eq_getElem h
    rw [List.range_succ, List.filterMap_append, take_all L n (Nat.le_of_lt h), List.take_add_one, hn, List.filterMap_cons_some hn]
    rfl
theorem reorder (L : List KT) (es : Array (Int × Value)) (order : Array Nat) (e : es.toList = L.map fun p => (hk P w p.2, Value.ref p.1)) (hp : order.toList.Perm (List.range L.length)) :
    ∃ L2 : List KT, L2.Perm L ∧ (order.filterMap (es[·]?)).toList = (L2.map fun p => (hk P w p.2, Value.ref p.1)) ∧ hs P w L2 = order.toList.map fun i => (es.map (·.1)).getD i 0 := by
  have each : ∀ l : List Nat, (∀ i ∈ l, i < L.length) → l.filterMap (fun i => es[i]?) = ((l.filterMap fun i => L[i]?).map fun p => (hk P w p.2, Value.ref p.1)) ∧ hs P w (l.filterMap fun i => L[i]?) = l.map fun i => (es.map (·.1)).getD i 0 := by
    intro l
    induction l with
    | nil => exact fun _ => ⟨rfl, rfl⟩
    | cons i l ih =>
      intro hl
      have hi := hl i List.mem_cons_self
      obtain ⟨h1, h2⟩ := ih fun j hj => hl j (List.mem_cons_of_mem _ hj)
      have a1 : L[i]? = some L[i] := List.getElem?_eq_getElem hi
      have a2 := ents_at e a1
      have a3 : (es.map (·.1)).getD i 0 = hk P w (L[i]).2 := by
        have z : (es.map (·.1))[i]? = some (hk P w (L[i]).2) := by
          rw [Array.getElem?_map, a2]
          rfl
        simp [Array.getD_eq_getD_getElem?, z]
      constructor
      · rw [List.filterMap_cons_some a2, List.filterMap_cons_some a1, h1]
        rfl
      · rw [List.filterMap_cons_some a1, List.map_cons, a3, ← h2]
        rfl
  obtain ⟨h1, h2⟩ := each order.toList fun i hi => List.mem_range.mp (hp.mem_iff.mp hi)
  refine ⟨order.toList.filterMap fun i => L[i]?, ?_, ?_, h2⟩
  · have z := hp.filterMap (fun i => L[i]?)
    rw [take_all L L.length (Nat.le_refl _), List.take_length] at z
    exact z
  · rw [← h1]
    first
      | rw [Array.toList_filterMap]
      | simp
/-- an object other than the set's -/
theorem tk_same {h h' : Heap} {k : List Key} {b : Addr} {o : Obj} {ep : Nat} (T : Tk P w h k b) (ho : h.get? a = some o) (hd : o.data = .set es ep t) (sb : Heap.SameBut a h h') : Tk P w h' k b := by
  obtain ⟨o2, its, n, h2, hc, hdt, hi⟩ := T
  refine ⟨o2, its, n, (sb.2 b fun z => ?_).trans h2, hc, hdt, hi⟩
  rw [z, ho] at h2
  rw [Option.some.inj h2, hdt] at hd
  cases hd
theorem relay {o : Obj} {ep : Nat} (ho : s.heap.get? a = some o) (hex : o.ExactSet) (hd : o.data = .set es ep t) (he : es.toList = L.map fun p => (hk P w p.2, Value.ref p.1)) (hfit : t.fits es.size = true) (nd : (L.map (·.2)).Nodup) (tp : ∀ p ∈ L, Tk P w s.heap p.2 p.1) (few : L.length < 64)
    {want M : Nat} (hw : SetTable.sizeAbove want - 1 = M) (hM : MaskOk M) (hw2 : SetTable.sizeAbove want ≤ 128) (hn : L.length * 5 < M * 3) {Q : Unit → Shared → Prop}
    (q : ∀ h' L' es' t', Heap.SameBut a s.heap h' → TSet P w h' a L' es' t' → L'.Perm L → Q () { s with heap := h' }) : wpAny (model P w) A (setRelay a want) Q E s := by
  have hz := ents_len he
  obtain ⟨t', order, e1, pm, T, em, _, _, _⟩ := relaid_ok t (hs := es.map (·.1)) (wanted := want) hw hM (by rw [Array.size_map, hz]; omega)
  rw [Array.size_map, hz] at pm
  obtain ⟨L2, p2, r2, r3⟩ := reorder L es order he pm
  rw [← r3] at T
  have hz2 : (order.filterMap (es[·]?)).size = es.size := by rw [hz, ents_len r2, p2.length_eq]
  rw [setRelay_eq]
  refine wpAny_bind (wpAny_setState_of ho hd hfit ?_)
  dsimp only
  refine wp_if_neg (by rw [sizeLine_eq]; omega) ?_
  try refine wpAny_bind (wpAny_pure ?_)
  rw [e1]
  dsimp only
  refine wpAny_bind (wp_if_neg (by rw [hz2]; simp) ?_)
  try refine wpAny_bind (wpAny_pure ?_)
  refine wpAny_pure ?_
  dsimp only
  have sb : Heap.SameBut a s.heap (s.heap.update a (Obj.putSet (order.filterMap (es[·]?)) t')) := Heap.SameBut.update ..
  refine wpAny_storeSet_of ho hd (q _ L2 (order.filterMap (es[·]?)) t' sb ⟨⟨_, _, store_at ho hd, ⟨hex.1, hex.2.1, hex.2.2⟩, rfl⟩, r2, T, (p2.map (·.2)).nodup_iff.mpr nd, fun p hp => tk_same (tp p (p2.mem_iff.mp hp)) ho hd sb, ?_, ?_⟩ p2) (by rw [hz2, hz, sizeLine_eq]; omega)
  · rw [p2.length_eq, em]
    exact hn
  · rw [p2.length_eq]
    exact few

/-! ### adding -/
theorem mid_perm {α : Type} (L : List α) (i : Nat) (x : α) : (L.take i ++ x :: L.drop i).Perm (x :: L) := by
  have z : (L.take i ++ x :: L.drop i).Perm (x :: (L.take i ++ L.drop i)) := List.perm_middle
  rwa [List.take_append_drop] at z
theorem add (R : TSet P w s.heap a L es t) {x : Addr} {k : List Key} (T : Tk P w s.heap k x) (hu : A.units < cLine) (hfew : L.length + 1 < 64) {Q : Bool → Shared → Prop}
    (q : ∀ b h' L' es' t', Heap.SameBut a s.heap h' → TSet P w h' a L' es' t' → (k ∈ L.map (·.2) → L' = L) → (k ∉ L.map (·.2) → L'.Perm ((x, k) :: L)) → Q b { s with heap := h' }) :
    wpAny (model P w) A (setAddHashed a (.ref x) (hk P w k)) Q E s := by
  obtain ⟨o, ep, ho, hex, hd⟩ := R.obj
  have hz := ents_len R.ents
  have hr := R.room
  unfold setAddHashed
  refine wpAny_holding ?_
  rw [show (100000 : Nat) = 99999 + 1 from rfl, setAddHashedIn_succ]
  refine wpAny_bind (wpAny_setState_of ho hd R.fit ?_)
  dsimp only
  refine wp_if_neg (by simp [byScan, Value.scannable]) ?_
  try refine wpAny_bind (wpAny_pure ?_)
  refine wpAny_bind (find_all R T hu (fun hm => ?_) fun N hm hfree hocc => ?_)
  · dsimp only
    exact wpAny_pure (q false s.heap L es t (Heap.SameBut.refl a s.heap) R (fun _ => rfl) fun z => absurd hm z)
  · dsimp only
    refine wpAny_bind (wpAny_setState_of ho hd R.fit ?_)
    dsimp only
    obtain ⟨q1, q2, q3, q4, _, _, _, _, q9⟩ := R.tab.put hfree hocc
    obtain ⟨t1, i⟩ : SetTable × Nat := ⟨(t.put (way t.mask (hk P w k) N)).1, (t.put (way t.mask (hk P w k) N)).2⟩
    generalize t.put (way t.mask (hk P w k) N) = pt at q1 q3 q4 q9 ⊢
    obtain ⟨u, j⟩ := pt
    dsimp only at q1 q3 q4 q9 ⊢
    subst q1
    generalize SetTable.below t.place (way t.mask (hk P w k) N) = j at q2 q3 ⊢
    have pm := mid_perm L j (x, k)
    have ins : (SetTable.insertAt es j (hk P w k, Value.ref x)).toList = ((L.take j ++ (x, k) :: L.drop j).map fun p => (hk P w p.2, Value.ref p.1)) := by
      rw [SetTable.toList_insertAt, R.ents, List.map_append, List.map_cons, List.map_take, List.map_drop]
    have hss : hs P w (L.take j ++ (x, k) :: L.drop j) = (hs P w L).take j ++ hk P w k :: (hs P w L).drop j := by
      show List.map _ _ = _
      rw [List.map_append, List.map_cons, List.map_take, List.map_drop]
    have T1 : TabOk u (hs P w (L.take j ++ (x, k) :: L.drop j)) := by rw [hss]; exact q3
    have nd1 : ((L.take j ++ (x, k) :: L.drop j).map (·.2)).Nodup := (pm.map (·.2)).nodup_iff.mpr (List.nodup_cons.mpr ⟨hm, R.dist⟩)
    have hlen : (L.take j ++ (x, k) :: L.drop j).length = L.length + 1 := pm.length_eq
    generalize L.take j ++ (x, k) :: L.drop j = L1 at pm ins T1 nd1 hlen
    generalize SetTable.insertAt es j (hk P w k, Value.ref x) = es1 at ins ⊢
    have hz1 : es1.size = L.length + 1 := (ents_len ins).trans hlen
    have fill1 : u.fill = L.length + 1 := by rw [q9, List.length_map]
    -- whatever the table is told of the key's hash
    have rest : ∀ (v : SetTable), v.place = u.place → v.dummies = u.dummies → v.mask = u.mask → wpAny (model P w) A (do
        storeSet a es1 v
        if (!false && v.tooFull) = true then setRelay a (SetTable.grown (es.size + 1))
        return true) Q E s := by
      intro v v1 v2 v3
      have Tv : TabOk v (hs P w L1) := by
        refine ⟨by rw [v1]; exact T1.ris, by rw [v2]; exact T1.dm, by rw [v1]; exact T1.sz, by rw [v3]; exact T1.mok, fun y hy => ?_, fun i' h' j' a1 a2 => ?_⟩
        · rw [v1] at hy
          rw [v3]
          exact T1.bd y hy
        · rw [v1] at a2 ⊢
          rw [v3]
          exact T1.reach i' h' j' a1 a2
      have fillv : v.fill = L.length + 1 := by
        unfold SetTable.fill
        rw [v1, v2]
        exact fill1
      have sb : Heap.SameBut a s.heap (s.heap.update a (Obj.putSet es1 v)) := Heap.SameBut.update ..
      have ho1 := store_at (es' := es1) (t' := v) ho hd
      refine wpAny_bind (wpAny_storeSet_of ho hd ?_ (by rw [hz1, sizeLine_eq]; omega))
      generalize s.heap.update a (Obj.putSet es1 v) = h1 at sb ho1 ⊢
      have tp1 : ∀ p ∈ L1, Tk P w h1 p.2 p.1 := fun p hp => by
        rcases List.mem_cons.mp (pm.mem_iff.mp hp) with e | hp
        · rw [e]
          exact tk_same T ho hd sb
        · exact tk_same (R.tups p hp) ho hd sb
      have few1 : L1.length < 64 := by rw [hlen]; exact hfew
      cases hf : v.tooFull with
      | false =>
        simp only [Bool.not_false, Bool.and_false, Bool.false_eq_true, if_false]
        have roomy : L1.length * 5 < v.mask * 3 := by
          have z := hf
          unfold SetTable.tooFull at z
          rw [decide_eq_false_iff_not, fillv] at z
          rw [hlen]
          omega
        first
          | exact wpAny_pure (q true h1 L1 es1 v sb ⟨⟨_, _, ho1, ⟨hex.1, hex.2.1, hex.2.2⟩, rfl⟩, ins, Tv, nd1, tp1, roomy, few1⟩ (fun z => absurd z hm) fun _ => pm)
          | exact wpAny_bind (wpAny_pure (wpAny_pure (q true h1 L1 es1 v sb ⟨⟨_, _, ho1, ⟨hex.1, hex.2.1, hex.2.2⟩, rfl⟩, ins, Tv, nd1, tp1, roomy, few1⟩ (fun z => absurd z hm) fun _ => pm)))
      | true =>
        simp only [Bool.not_false, Bool.and_true, if_true]
        have full : (L.length + 1) * 5 ≥ v.mask * 3 := by
          have z := hf
          unfold SetTable.tooFull at z
          rw [decide_eq_true_eq, fillv] at z
          exact z
        have hv : v.mask = t.mask := v3.trans q4
        rw [hz]
        have two : (t.mask = 7 ∧ L.length = 4) ∨ (t.mask = 31 ∧ L.length = 18) := by
          rw [hv] at full
          rcases R.tab.mok with e | e | e
          · left; rw [e] at full hr; exact ⟨e, by omega⟩
          · right; rw [e] at full hr; exact ⟨e, by omega⟩
          · exfalso; rw [e] at full; omega
        have go : ∀ M, SetTable.sizeAbove (SetTable.grown (L.length + 1)) - 1 = M → MaskOk M → SetTable.sizeAbove (SetTable.grown (L.length + 1)) ≤ 128 → (L.length + 1) * 5 < M * 3 →
            wpAny (model P w) A (setRelay a (SetTable.grown (L.length + 1))) (fun _ s' => wpAny (model P w) A (pure true) Q E s') E { s with heap := h1 } := fun M a1 a2 a3 a4 =>
          relay (s := { s with heap := h1 }) ho1 ⟨hex.1, hex.2.1, hex.2.2⟩ rfl ins (fits_of (ents_len ins) Tv (by rw [hlen, hv]; rcases two with ⟨e, e2⟩ | ⟨e, e2⟩ <;> omega)) nd1 tp1 few1 a1 a2 a3 (by rw [hlen]; exact a4)
            fun h2 L2 es2 t2 sb2 R2 pm2 => wpAny_pure (q true h2 L2 es2 t2 (sb.trans sb2) R2 (fun z => absurd z hm) fun _ => pm2.trans pm)
        rcases two with ⟨_, e2⟩ | ⟨_, e2⟩
        · exact wpAny_bind (go 31 (by rw [e2, size_20]) (.inr (.inl rfl)) (by rw [e2, size_20]; decide) (by omega))
        · exact wpAny_bind (go 127 (by rw [e2, size_76]) (.inr (.inr rfl)) (by rw [e2, size_76]; decide) (by omega))
    have both : ∀ c : Bool, (if c = true then u else { u with plain := false }).place = u.place ∧ (if c = true then u else { u with plain := false }).dummies = u.dummies ∧ (if c = true then u else { u with plain := false }).mask = u.mask := fun c => by
      cases c <;> exact ⟨rfl, rfl, rfl⟩
    split
    · refine wpAny_bind (byValue T fun c => ?_)
      exact rest _ (both c).1 (both c).2.1 (both c).2.2
    · refine wpAny_bind (wpAny_pure ?_)
      exact rest _ (both true).1 (both true).2.1 (both true).2.2

/-! ### all the items, one after another -/
/-- what the set holds of the first i of ks -/
structure Took (ks : List KT) (i : Nat) (L : List KT) : Prop where
  same : ∀ k, k ∈ L.map (·.2) ↔ k ∈ (ks.take i).map (·.2)
  sub : ∀ p ∈ L, p ∈ ks.take i
  le : L.length ≤ i
  full : L.length = i ↔ ((ks.take i).map (·.2)).Nodup
theorem Took.start (ks : List KT) : Took ks 0 [] := ⟨fun _ => Iff.rfl, fun p h => (nomatch h), Nat.le_refl _, ⟨fun _ => List.nodup_nil, fun _ => rfl⟩⟩
theorem take_more {ks : List KT} {i : Nat} {p : KT} (h : ks[i]? = some p) : (ks.take (i + 1)).map (·.2) = (ks.take i).map (·.2) ++ [p.2] := by
  rw [List.take_add_one, h, List.map_append]
  rfl
theorem nodup_snoc {α : Type} {l : List α} {x : α} : (l ++ [x]).Nodup ↔ l.Nodup ∧ x ∉ l := by
  rw [List.nodup_append]
  constructor
  · rintro ⟨h1, _, h3⟩
    exact ⟨h1, fun hx => h3 x hx x (List.mem_singleton.mpr rfl) rfl⟩
  · rintro ⟨h1, h2⟩
    refine ⟨h1, List.pairwise_singleton _ _, fun y hy z hz e => ?_⟩
    rw [List.mem_singleton.mp hz] at e
    exact h2 (e ▸ hy)
theorem Took.old {ks L : List KT} {i : Nat} {p : KT} (g : Took ks i L) (h : ks[i]? = some p) (hm : p.2 ∈ L.map (·.2)) : Took ks (i + 1) L := by
  have e := take_more h
  refine ⟨fun k => ?_, fun q hq => ?_, Nat.le_succ_of_le g.le, ?_⟩
  · rw [e, List.mem_append, List.mem_singleton, g.same k]
    exact ⟨.inl, fun z => z.elim id fun z => by rw [z]; exact (g.same _).mp hm⟩
  · rw [List.take_add_one]
    exact List.mem_append_left _ (g.sub q hq)
  · rw [e, nodup_snoc]
    exact ⟨fun z => absurd z (Nat.ne_of_lt (Nat.lt_succ_of_le g.le)), fun z => absurd ((g.same _).mp hm) z.2⟩
theorem Took.new {ks L L' : List KT} {i : Nat} {p : KT} (g : Took ks i L) (h : ks[i]? = some p) (hm : p.2 ∉ L.map (·.2)) (pm : L'.Perm (p :: L)) : Took ks (i + 1) L' := by
  have e := take_more h
  refine ⟨fun k => ?_, fun q hq => ?_, by rw [pm.length_eq]; exact Nat.succ_le_succ g.le, ?_⟩
  · rw [e, List.mem_append, List.mem_singleton, (pm.map (·.2)).mem_iff, List.map_cons, List.mem_cons, g.same k]
    exact or_comm
  · rw [List.take_add_one, h]
    rcases List.mem_cons.mp (pm.mem_iff.mp hq) with z | z
    · exact List.mem_append_right _ (by rw [z]; exact List.mem_singleton.mpr rfl)
    · exact List.mem_append_left _ (g.sub q z)
  · rw [e, nodup_snoc, pm.length_eq, List.length_cons, ← g.full]
    have z : p.2 ∉ (ks.take i).map (·.2) := fun q => hm ((g.same _).mpr q)
    constructor
    · exact fun q => ⟨by omega, z⟩
    · exact fun q => by rw [q.1]

theorem tk_keep {h h' : Heap} {k : List Key} {b : Addr} (T : Tk P w h k b) (hk' : ∀ c o, h.get? c = some o → h'.get? c = some o) : Tk P w h' k b := let ⟨o, its, n, h2, r⟩ := T; ⟨o, its, n, hk' b o h2, r⟩
theorem TSet.keep {h h' : Heap} (R : TSet P w h a L es t) (ha : ∀ o, h.get? a = some o → h'.get? a = some o) (ht : ∀ p ∈ L, Tk P w h' p.2 p.1) : TSet P w h' a L es t :=
  let ⟨o, ep, h2, r⟩ := R.obj
  ⟨⟨o, ep, ha o h2, r⟩, R.ents, R.tab, R.dist, ht, R.room, R.few⟩
theorem tset_new {h : Heap} {led : Bool} (ho : h.get? a = some { cls := .type "set", dict := none, data := .set #[] 0 (.fresh 0 0 led) }) : TSet P w h a [] #[] (.fresh 0 0 led) where
  obj := ⟨_, _, ho, ⟨rfl, rfl, rfl⟩, rfl⟩
  ents := rfl
  tab := ⟨List.Pairwise.nil, rfl, rfl, .inl rfl, fun _ z => (nomatch z), fun i h j z => (by simp at z)⟩
  dist := List.nodup_nil
  tups := fun _ z => (nomatch z)
  room := (by decide : 0 * 5 < 7 * 3)
  few := (by decide : 0 < 64)

/-- the loop that puts the items in -/
theorem fill {I S : Addr} {fp wr : List Addr} {G : Array GenState → Array GenState → Prop} {n : Nat} {Pv : Nat → Value → Prop} {Sv : Nat → Shared → Prop} {R : Result → Shared → Prop} (W : WalksS P w A.in1 I fp wr G n Pv Sv) (hS : S ∉ fp) (ks : List KT) (hn : n = ks.length) (hfew : ks.length < 64)
    (val : ∀ i v, Pv i v → ∃ p, ks[i]? = some p ∧ v = .ref p.1) (h0 : Heap) (hks : ∀ p ∈ ks, Tk P w h0 p.2 p.1) (nS : h0.get? S = none) (nw : ∀ b ∈ wr, h0.get? b = none) (hu : A.in1.units < cLine) (left : Nat) :
    ∀ (i : Nat) (z : Shared), n - i = left → i ≤ n → Sv i z → (∀ b o, h0.get? b = some o → z.heap.get? b = some o) → (∃ L es t, TSet P w z.heap S L es t ∧ Took ks i L) →
      (∀ z' L es t, Moved (S :: wr) G z z' → TSet P w z'.heap S L es t → Took ks n L → (∀ b o, h0.get? b = some o → z'.heap.get? b = some o) → R (.ok (.ret .none)) z') →
      codeAny (model P w) A (.builtin "set.update.loop" ⟨[.ref S, .ref I], []⟩) R z := by
  have nSw : S ∉ wr := fun z => hS (W.sub _ z)
  have wsub : ∀ b ∈ wr, b ∈ S :: wr := fun b hb => List.mem_cons_of_mem _ hb
  have kept : ∀ {z z' : Shared}, Moved wr G z z' → (∀ b o, h0.get? b = some o → z.heap.get? b = some o) → ∀ b o, h0.get? b = some o → z'.heap.get? b = some o := fun m k b o e => m.heap b o (fun hb => by rw [nw b hb] at e; cases e) (k b o e)
  have still : ∀ {z z' : Shared} {i : Nat} {L : List KT} {es t}, Moved wr G z z' → (∀ b o, h0.get? b = some o → z'.heap.get? b = some o) → Took ks i L → TSet P w z.heap S L es t → TSet P w z'.heap S L es t := fun m k g R =>
    R.keep (fun o e => m.heap S o nSw e) fun p hp => tk_keep (hks p (List.mem_of_mem_take (g.sub p hp))) k
  induction left with
  | zero =>
    intro i z hl hi hst hkeep ⟨L, es, t, hset, g⟩ fin
    obtain rfl : i = n := by omega
    refine codeAny_builtin PyProof.Rows.F.entry_set_update_loop ?_
    rw [Around.under_plainId PyProof.Rows.F.plain_set_update_loop _]
    show wpAny _ A.in1 (pyNext (.ref I) >>= _) _ _ z
    refine wpAny_bind (W.done z _ _ hst fun z' m => ?_)
    have k' := kept m hkeep
    exact wpAny_pure (fin z' L es t (m.mono wsub) (still m k' g hset) g k')
  | succ left ih =>
    intro i z hl hi hst hkeep ⟨L, es, t, hset, g⟩ fin
    have hin : i < n := by omega
    refine codeAny_builtin PyProof.Rows.F.entry_set_update_loop ?_
    rw [Around.under_plainId PyProof.Rows.F.plain_set_update_loop _]
    show wpAny _ A.in1 (pyNext (.ref I) >>= _) _ _ z
    refine wpAny_bind (W.item i z _ _ hin hst fun v z' hv hst' m => ?_)
    obtain ⟨p, hp, rfl⟩ := val i v hv
    have k' := kept m hkeep
    have T := tk_keep (hks p (List.mem_of_getElem? hp)) k'
    have R1 : TSet P w z'.heap S L es t := still m k' g hset
    show wpAny _ A.in1 (holding [Value.ref p.1] (setAdd S (.ref p.1)) >>= _) _ _ z'
    refine wpAny_bind (wpAny_holding ?_)
    unfold setAdd
    refine wpAny_holding (wpAny_bind (wpAny_pyHash_tuple hu T (add (s := { z' with toks := z'.toks + (p.2.length + 1) }) R1 T hu (by have := g.le; omega) fun b h' L' es' t' sb R' c1 c2 => ?_)))
    have g' : Took ks (i + 1) L' := by
      by_cases c : p.2 ∈ L.map (·.2)
      · rw [c1 c]
        exact g.old hp c
      · exact g.new hp c (c2 c)
    have k2 : ∀ b o, h0.get? b = some o → h'.get? b = some o := fun b o e => (sb.2 b fun q => by rw [q, nS] at e; cases e).trans (k' b o e)
    refine wpAny_pure ⟨plainId_quiet PyProof.Rows.F.plain_set_update_loop _, ih (i + 1) _ (by omega) hin (W.frame _ z' _ _ hst' (Nat.le_add_right _ _) fun b hb o e => ?_) k2 ⟨L', es', t', R', g'⟩ fun z2 L2 es2 t2 m2 R2 g2 kk2 => ?_⟩
    · rw [sb.2 b fun q => hS (q ▸ hb)]
      exact e
    · refine fin z2 L2 es2 t2 (Moved.trans W.gtrans ((m.mono wsub).then_heap (Nat.le_add_right _ _) fun b o hb e => ?_) m2) R2 g2 kk2
      rw [sb.2 b fun q => hb (q ▸ List.mem_cons_self)]
      exact e
end
end AsSet

set_option maxHeartbeats 4000000
set_option autoImplicit true
namespace AsSet
open PySem PySem.Spec PyProof.Rows L2
section
variable {P : Program} {w : World} {A : Around} {E : Value → Shared → Prop} {s : Shared}
abbrev bareSet (led : Bool) : Obj := { cls := .type "set", dict := none, data := .set #[] 0 (.fresh 0 0 led) }
/-- set(t), t a tuple of such tuples -/
theorem set_of {l : Addr} {items : Array Value} (ks : List KT) {Q : Value → Shared → Prop} (hh : A.handled = none) (hl : s.heap.IsTuple l items) (hit : items.toList = ks.map fun p => Value.ref p.1) (hks : ∀ p ∈ ks, Tk P w s.heap p.2 p.1) (hfew : ks.length < 64) (hu : A.units + 3 < cLine)
    (q : ∀ h' tk L es t, TSet P w h' s.heap.objs.size L es t → Took ks ks.length L → (∀ b o, s.heap.get? b = some o → h'.get? b = some o) → Q (.ref s.heap.objs.size) { s with heap := h', toks := tk }) :
    wpAny (model P w) A (call (.type "set") [.ref l]) Q E s := by
  have hz : items.size = ks.length := by rw [← Array.length_toList, hit, List.length_map]
  have cs := PySem.F.called_set
  obtain ⟨c, tl, hmro⟩ := cs.mro
  have hmade := cs.made
  have hsub := cs.sub
  have n1 := cs.notType
  have n2 := cs.canCreate
  have ct := PySem.F.typeCall_set_1 (.ref l)
  refine wpAny_call (codeAny_of_tree (show wpAny _ _ (callAny (.type "set") _) _ _ _ from wpAny_pure ⟨Code.quiet_builtin _ (by decide +kernel), codeAny_builtin PySem.F.entry_type_call ?_⟩))
  rw [Around.under_plain (weight_type_call_type "set" [.ref l] []) rfl]
  repeat (any_goals (first | assumption | wp_step))
  refine codeAny_mono (code_set_new_1 (.ref l) (E := E) (Q₁ := fun v z => ∃ led : Bool, v = .ref s.heap.objs.size ∧ z = { s with heap := s.heap.push (bareSet led) }) fun led => ⟨led, rfl, rfl⟩) fun r z hr => ?_
  match r, hr with
  | .error _, hr => exact hr
  | .ok .next, hr => exact hr.elim
  | .ok .brk, hr => exact hr.elim
  | .ok .cont, hr => exact hr.elim
  | .ok (.ret v), hr =>
    obtain ⟨led, rfl, rfl⟩ := hr
    have at0 : (s.heap.push (bareSet led)).get? s.heap.objs.size = some (bareSet led) := Heap.get?_push_size _ rfl
    have ty : Shared.TypeIs { s with heap := s.heap.push (bareSet led) } (.ref s.heap.objs.size) "set" := ⟨_, at0, rfl⟩
    have li := cs.init.lookup
    have bi := cs.init.bind (.ref s.heap.objs.size)
    repeat (any_goals (first | assumption | wp_step))
    refine codeAny_mono (codeAny_call_builtin (R := wants (fun r z => r = .none ∧ ∃ h' tk L es t, z = { s with heap := h', toks := tk } ∧ TSet P w h' s.heap.objs.size L es t ∧ Took ks ks.length L ∧ ∀ b o, s.heap.get? b = some o → h'.get? b = some o) E)
      cs.init.plain PySem.F.entry_set_init (check_set_init_1 ty ?_)) fun r2 z2 hr2 => ?_
    · obtain ⟨⟨ocls, odict, odata, oslots⟩, hol, hc, nl, hd⟩ := hl
      simp only at hc hd
      subst hc
      subst hd
      have hol2 : (s.heap.push (bareSet led)).get? l = some { cls := .type "tuple", dict := odict, data := .seq items nl, slots := oslots } := Heap.get?_push_of_some _ hol
      have ts := PySem.F.sub_tuple_set
      have tf := PySem.F.sub_tuple_frozenset
      have td : (Value.type "tuple" == Value.type "dict") = false := by decide
      have hl2 : (s.heap.push (bareSet led)).IsTuple l items := ⟨_, hol2, rfl, nl, rfl⟩
      unfold Builtin.«set.__init__» noKeywords Builtin.Frozenset.updateFrom
      generalize hPI : pyIter = PI
      wp_walk
      subst hPI
      have lt : l < s.heap.objs.size := Heap.lt_size hol
      have zz : (s.heap.push (bareSet led)).objs.size = s.heap.objs.size + 1 := Heap.size_push ..
      have gone : ∀ b, s.heap.objs.size ≤ b → s.heap.get? b = none := fun b hb => Heap.get?_none_of_le hb
      refine wpAny_pyIter_tuple hl2 (wpAny_bind (wpAny_runValue ?_))
      have h3 : A.in1.in1.in1.handled = none := hh
      have ne1 : l ≠ (s.heap.push (bareSet led)).objs.size := by rw [zz]; exact Nat.ne_of_lt (Nat.lt_succ_of_lt lt)
      have ne2 : s.heap.objs.size ∉ [(s.heap.push (bareSet led)).objs.size, l] := by
        rw [zz]
        intro e
        rcases List.mem_cons.mp e with e | e
        · exact Nat.ne_of_lt (Nat.lt_succ_self _) e
        · exact Nat.ne_of_gt lt (List.mem_singleton.mp e)
      refine fill (S := s.heap.objs.size) ((Walks.tuple h3 _ l ne1 items).toS) ne2 ks hz hfew (fun i v hv => ?_) s.heap hks (gone _ (Nat.le_refl _)) (fun b hb => gone b (by rw [List.mem_singleton.mp hb, zz]; exact Nat.le_succ _)) hu items.size 0 _ (Nat.sub_zero _) (Nat.zero_le _)
        ⟨⟨_, Heap.get?_push_size _ rfl, rfl, rfl⟩, hl2.push _⟩ (fun b o e => Heap.get?_push_of_some _ (Heap.get?_push_of_some _ e)) ⟨[], #[], _, tset_new (Heap.get?_push_of_some _ at0), Took.start ks⟩ fun z' L es t m R g kk => ?_
      · have z : items.toList[i]? = some v := by rw [Array.getElem?_toList]; exact hv
        rw [hit, List.getElem?_map] at z
        cases hq : ks[i]? with
        | none => rw [hq] at z; cases z
        | some p =>
          rw [hq] at z
          exact ⟨p, rfl, (Option.some.inj z).symm⟩
      · obtain ⟨zh, zg, zd, zt, zo⟩ := z'
        obtain rfl : zg = s.gens := m.gens
        obtain rfl : zd = s.drawn := m.drawn
        obtain rfl : zo = s.os := m.os
        rw [hz] at g
        exact wpAny_pure (show wpAny _ _ (ret Value.none) _ _ _ from wpAny_pure ⟨rfl, zh, zt, L, es, t, rfl, R, g, kk⟩)
    · match r2, hr2 with
      | .error _, hr => exact hr
      | .ok .next, hr => exact hr.elim
      | .ok .brk, hr => exact hr.elim
      | .ok .cont, hr => exact hr.elim
      | .ok (.ret v), hr =>
        obtain ⟨rfl, h', tk, L, es, t, rfl, R, g, kk⟩ := hr
        repeat (any_goals (first | assumption | wp_step))
        exact q _ _ _ _ _ R g kk
end

theorem items_of : ∀ {ks : List Key} {us : List Value} {P : Program} {w : World}, Vals (ks.map kV) us → ItemsAre (mixKind P w) ks us
  | [], _, _, _, .nil => .nil
  | .inl i :: ks, _, P, w, .cons r t => by
    obtain ⟨k, rfl⟩ := r
    exact .cons (mixKind_int P w i k) (items_of t)
  | .inr x :: ks, _, P, w, .cons r t => by
    obtain ⟨k, rfl⟩ := r
    exact .cons (mixKind_str P w x k) (items_of t)
theorem tk_of {X : Cx} {pins : List (Addr × Obj)} {σ : L2.St} {H : Hp} {s : Shared} {b : Addr} {ks : List Key} (I : Inv X pins σ H s) (h : SqT X.K H b (ks.map kV)) : Tk X.prog X.w s.heap ks b := by
  obtain ⟨its, rv, ⟨o, ho, hc, n, hd⟩, _⟩ := I.tuple h
  exact ⟨o, its.toArray, n, ho, hc, hd, items_of rv⟩
theorem refs_of : ∀ {ks : List KT} {us : List Value}, Vals (ks.map fun p => V.ref p.1) us → us = ks.map fun p => Value.ref p.1
  | [], _, .nil => rfl
  | _ :: _, _, .cons r t => by
    cases r
    rw [refs_of t]
    rfl
/-- len(set(t)): n is told by whether the items differ -/
def tLenSet (K : PySem.W.Frag) (ta : TE) : TE := fun σ H Q => ta σ H fun x G => ∃ (l : Addr) (ks : List KT), x = .ref l ∧ SqT K G l (ks.map fun p => V.ref p.1) ∧ (∀ p ∈ ks, SqT K G p.1 (p.2.map kV)) ∧ ks.length < 64 ∧
  ∀ n : Nat, n ≤ ks.length → (n = ks.length ↔ (ks.map (·.2)).Nodup) → Q (.int (n : Int)) G
theorem pe_lenSet {X : Cx} {a : Expr} {ta : TE} {k : Nat} {p p2 q pos : Pos} (hr : Room k X.A) (hg : Gl X "len") (hm : X.mg "len" = none) (hg2 : Gl X "set") (hm2 : X.mg "set" = none) (ha : PE X a ta) (hc : X.calm = true := by rfl)
    (na : starEach [a] X.env = (false, eval a X.env) :: starEach [] X.env := by rfl) : PE X (.Call (.Name "len" p) [.Call (.Name "set" p2) [a] [] q] [] pos) (tLenSet X.K ta) := by
  refine ⟨fun pins s σ H Q I h => ?_⟩
  refine Call_ (ld_blt I hg hm boot_len (PyProof.Rows.callWith_builtin1 (PyProof.Rows.args_cons (Call_ (ld_blt I hg2 hm2 boot_set ?_)) rfl) rfl rfl))
  refine PyProof.Rows.callWith_type1 (PyProof.Rows.args_cons (thn (ha.run pins s σ H _ I h) fun v s1 ⟨x, G, J, r1, q1⟩ => PyProof.Rows.args_nil ?_) na) na rfl
  obtain ⟨l, ks, rfl, hq, hks, hl, q1⟩ := q1
  cases r1
  obtain ⟨its, rv, tp, hz⟩ := J.tuple hq
  have hu := hr.units
  refine set_of ks (J.ok.hd hc) tp (by rw [refs_of rv]) (fun p hp => tk_of J (hks p hp)) hl (by omega) fun h' tk L es t R g kk => PyProof.Rows.args_nil ?_
  have J2 : Inv X pins σ G { s1 with heap := h', toks := tk } := J.kept kk
  obtain ⟨o, ep, ho, hex, hd⟩ := R.obj
  have hn := ents_len R.ents
  have hfull := g.full
  rw [List.take_length] at hfull
  exact call_len_set ho hex hd (R.fit (s := { s1 with heap := h', toks := tk })) (by rw [hn]; have := R.few; omega) ⟨.int (L.length : Nat), G, J2.tok _, ⟨_, by rw [hn]⟩, q1 L.length g.le hfull⟩
end AsSet

set_option maxHeartbeats 4000000
set_option autoImplicit false
/-! kinds: tuples of two texts; a tuple of them has no double. -/
namespace AsKit
open PySem PySem.Spec PyProof.Rows L2 AsSort
open Evl (Ex Ev EvT EvA)
def kD (p : Str × Str) : PyData := .tuple [.str p.1, .str p.2]
def kK (p : Str × Str) : List Key := [Sum.inr p.1, Sum.inr p.2]
theorem kK_inj {p q : Str × Str} (h : kK p = kK q) : p = q := by
  have e1 : (Sum.inr p.1 : Key) = Sum.inr q.1 := (List.cons.inj h).1
  have e2 : (Sum.inr p.2 : Key) = Sum.inr q.2 := (List.cons.inj (List.cons.inj h).2).1
  exact Prod.ext (Sum.inr.inj e1) (Sum.inr.inj e2)
theorem kK_nodup {ps : List (Str × Str)} : (ps.map kK).Nodup ↔ ps.Nodup := by
  unfold List.Nodup
  rw [List.pairwise_map]
  exact ⟨fun h => h.imp fun n e => n (by rw [e]), fun h => h.imp fun n e => n (kK_inj e)⟩
section
variable {K : PySem.W.Frag} {σ : L2.St} {H : Hp} {te : TE}
theorem kts {G : Hp} : ∀ {ps : List (Str × Str)} {xs : List V}, DpAll K G xs (ps.map kD) → ∃ ks : List AsSet.KT, xs = ks.map (fun p => V.ref p.1) ∧ (∀ p ∈ ks, SqT K G p.1 (p.2.map kV)) ∧ ks.map (·.2) = ps.map kK
  | [], _, .nil => ⟨[], rfl, fun _ h => (nomatch h), rfl⟩
  | p :: ps, _, .cons h t => by
    obtain ⟨ks, e1, e2, e3⟩ := kts (ps := ps) t
    cases h with
    | tup hs hx =>
      rename_i a ys
      obtain ⟨u, v, rfl, h1, h2⟩ := dp2 hx
      cases h1
      cases h2
      refine ⟨(a, kK p) :: ks, by rw [e1]; rfl, fun q hq => ?_, by rw [List.map_cons, List.map_cons, e3]⟩
      rcases List.mem_cons.mp hq with e | hq
      · rw [e]
        exact hs
      · exact e2 q hq
theorem d_lenSetEq {ps : List (Str × Str)} (h : EvD K te σ H (.tuple (ps.map kD))) (hl : ps.length < 64) : EvD K (tOp rEq (AsSet.tLenSet K te) (tCB (rLenQ K) (tCons te tNil))) σ H (.bool (decide ps.Nodup)) := fun H1 a Q q =>
  h H1 a _ fun v H2 x hd => by
    cases hd with
    | tup hs hx =>
      obtain ⟨ks, e1, e2, e3⟩ := kts hx
      subst e1
      have hk : ks.length = ps.length := by
        have z := congrArg List.length e3
        rw [List.length_map, List.length_map] at z
        exact z
      refine ⟨_, ks, rfl, hs, e2, by omega, fun n hn hi => ?_⟩
      refine h H2 (a.trans x) _ fun w H3 y hw => ?_
      cases hw with
      | tup hs3 hx3 =>
        rename_i c zs
        refine ⟨c, zs, rfl, .inr hs3, rfl, ?_⟩
        have hz : zs.length = ps.length := by rw [dpAll_len hx3, List.length_map]
        rw [hz]
        have e : decide (V.int (n : Int) = V.int ((ps.length : Nat) : Int)) = decide ps.Nodup := by
          rw [e3, kK_nodup] at hi
          by_cases c : ps.Nodup
          · rw [decide_eq_true c, hi.mpr c, hk]
            exact decide_eq_true rfl
          · rw [decide_eq_false c]
            exact decide_eq_false fun z => c (hi.mp (by have := Int.ofNat.inj (V.int.inj z); omega))
        rw [e]
        exact q _ H3 (x.trans y) (.bl _)
end
end AsKit

set_option maxHeartbeats 4000000
set_option autoImplicit false
namespace K14
open PySem PySem.Spec PyProof.Rows L2 AsSort AsKit
open Evl (Ex Ev EvT EvA)
def top (i : Nat) : Stmt := PySem.Challenge.pw_anyscribe_k14_ways_refused.main.body.getD i (.Pass ⟨0, 0, 0, 0⟩)
abbrev sIsInteger : Stmt := top 15
abbrev sIsLetters : Stmt := top 16
abbrev sIsText : Stmt := top 17
abbrev sIsTextWithin : Stmt := top 18
abbrev sIsKind : Stmt := top 19
abbrev sIsLot : Stmt := top 20
abbrev sCheckLetters : Stmt := top 21
abbrev sCheckText : Stmt := top 22
abbrev sCheckKinds : Stmt := top 23
section
variable {P : Program} {w : World} {K : PySem.W.Frag} {mg : Str → Option Value} {base : Heap}
theorem sc_is_integer : FnScope ["value"] ["value"] (defScope sIsInteger) := ⟨rfl, rfl, rfl, by decide +kernel, rfl, by decide +kernel, by decide +kernel⟩
def isIntD (d : PyData) : Bool := isD "int" d && !isD "bool" d
abbrev spIsInteger (K : PySem.W.Frag) : Sp := spP K (fun ds => ds.length = 1) (one fun d => .bool (isIntD d))
theorem c_is_integer (D : Df K mg "is_integer" sIsInteger) (hb : Bl mg) : Cl P w K mg base 1 "is_integer" (spIsInteger K) [] := by
  refine cl_of D sc_is_integer (len_sp fun ds h => h) (fun _ _ _ _ _ _ us hl => match us, hl with | [_], _ => rfl) fun f cdv A outer s H vs Q E hr h => ?_
  obtain ⟨ds, hd, hp, q⟩ := h
  refine ⟨_, pss_one (ps_ret (pe_and (pe_isi (x := "int") (T := "int") hb (pv 0)) (pe_one (pe_not (pe_isi (x := "bool") (T := "bool") hb (pv 0)))))), ?_⟩
  obtain ⟨d, rfl⟩ := List.length_eq_one_iff.mp hp
  cases hd with
  | cons h1 hd =>
    cases hd
    have a0 : At K (start ["value"] [_]) H 0 d := ⟨_, rfl, h1⟩
    exact AsKit.s_ret (K := K) (d_and (d_isD (d_var a0)) fun _ => d_not (d_isD (d_var a0))) q
abbrev nIsLetters : List Str := ["value", "small", "rising", "letter", "at"]
theorem sc_is_letters : FnScope nIsLetters ["value"] (defScope sIsLetters) := ⟨rfl, rfl, rfl, by decide +kernel, rfl, by decide +kernel, by decide +kernel⟩
def leS (i j : Str) : Bool := !decide (j.cps.toList < i.cps.toList)
def smF : PyData → Bool
  | .str y => leS "a" y && leS y "z"
  | _ => false
def riF (z : Str) : PyData → Bool
  | .int i => match atI z.cps.toList (i - 1), atI z.cps.toList i with
    | some a, some b => decide ([a] < [b])
    | _, _ => false
  | _ => false
def isLetS (z : Str) : Bool := decide ((1 : Int) ≤ z.length) && decide ((z.length : Int) ≤ 4) && (decide (((((sgns z).filter smF).map id).length : Int) = z.length) && decide (((((rngD 1 ((z.length : Int) - 1).toNat).filter (riF z)).map id).length : Int) = (z.length : Int) - 1))
def isLettersD : PyData → Bool
  | .str z => isLetS z
  | _ => false
abbrev spIsLetters (K : PySem.W.Frag) : Sp := spP K (fun ds => ∃ d, ds = [d] ∧ Tx d) (one fun d => .bool (isLettersD d))
theorem c_is_letters (D : Df K mg "is_letters" sIsLetters) (hb : Bl mg) (hm : Gn mg "MOST_LETTERS" 4) : Cl P w K mg base 1 "is_letters" (spIsLetters K) [] := by
  refine cl_of D sc_is_letters (len_sp fun ds ⟨d, h, _⟩ => by rw [h]; rfl) (fun _ _ _ _ _ _ us hl => match us, hl with | [_], _ => rfl) fun f cdv A outer s H vs Q E hr h => ?_
  obtain ⟨ds, hd, ⟨d, rfl, ht⟩, q⟩ := h
  obtain ⟨v, rfl, h0⟩ := dp1 hd
  refine ⟨_, pss_cons (ps_if (pw_or (pt_not (pt_val (pe_isi (x := "str") (T := "str") hb (pv 0)))) (pw_or1 (pt_not (pt_chain op_le op_le pe_int (pe_lenS hb (pv 0)) (pe_gn hm))))).pt (pss_one (ps_ret pe_bl)) pss_nil)
    (pss_cons (ps_setLcn (i := 1) 3 sc_is_letters.nd (pi_str (pv 0)) (fun _ _ _ _ _ => pts_one (pt_chain op_le_str op_le_str pe_str (pv 3) pe_str)) (fun _ _ _ _ _ => pv 3) (fun _ _ _ _ _ => pg_name sc_is_letters.nd rfl (.inl rfl)) (blkOk_by (N := nIsLetters) (sc := defScope sIsLetters) (own := [("letter", 3)]) (by decide +kernel)) rfl rfl rfl (sw_true rfl rfl rfl (by decide +kernel)))
    (pss_cons (ps_setLcn (i := 2) 4 sc_is_letters.nd (pi_range2 (by rfl) (hb _ (by decide +kernel)) (pa_cons pe_int (pa_cons (pe_lenS hb (pv 0)) pa_nil))) (fun _ _ _ _ _ => pts_one (pt_cmpR op_lt_str (pe_ix ix_str (pv 0) (pe_op op_sub (pv 4) pe_int) (fun _ _ => rfl)) (pe_ix ix_str (pv 0) (pv 4) (fun _ _ => rfl)) (nomark _))) (fun _ _ _ _ _ => pv 4) (fun _ _ _ _ _ => pg_name sc_is_letters.nd rfl (.inl rfl)) (blkOk_by (N := nIsLetters) (sc := defScope sIsLetters) (own := [("at", 4)]) (by decide +kernel)) rfl rfl rfl (sw_true rfl rfl rfl (by decide +kernel)))
    (pss_one (ps_ret (pe_and (pe_cmpR op_eq (pe_lenQ hb (pv 1)) (pe_lenS hb (pv 0)) (nomark _)) (pe_one (pe_cmpR op_eq (pe_lenQ hb (pv 2)) (pe_op op_sub (pe_lenS hb (pv 0)) pe_int) (nomark _)))))))), ?_⟩
  have a0 : At K (start nIsLetters [v]) H 0 d := ⟨_, rfl, h0⟩
  by_cases hs : isD "str" d = true
  · obtain ⟨z, rfl⟩ := isD_str hs
    have hz : z.length ≤ 40000 := ht z rfl
    have hz1 : z.length ≤ 100000 := by omega
    refine Evl.q_when (b := !(isD "str" (.str z)) || !(decide ((1 : Int) ≤ z.length) && decide ((z.length : Int) ≤ 4))) (Evl.et_or (Evl.et_not (t_ofB (d_isD (d_var a0)))) fun _ => Evl.et_not (t_ofD (d_chI (g1 := fun i j => decide (i ≤ j)) (g2 := fun i j => decide (i ≤ j)) d_int (d_lenS (d_var a0) hz1) fun _ => d_int))) (fun hb1 H1 e1 => AsKit.s_ret (K := K) d_bl fun u H2 e2 hu => q u H2 (e1.trans e2) ?_) fun hb1 H1 e1 => ?_
    · have : isLettersD (.str z) = false := by
        rw [hs, Bool.not_true, Bool.false_or, Bool.not_eq_true'] at hb1
        show isLetS z = false
        unfold isLetS
        rw [hb1, Bool.false_and]
      show Dp K H2 u (.bool (isLettersD (.str z)))
      rw [this]
      exact hu
    · rw [hs, Bool.not_true, Bool.false_or] at hb1
      have hb2 : (decide ((1 : Int) ≤ z.length) && decide ((z.length : Int) ≤ 4)) = true := by simpa using hb1
      have hz4 : z.length ≤ 4 ∧ 1 ≤ z.length := by
        simp only [Bool.and_eq_true, decide_eq_true_eq] at hb2
        omega
      refine AsKit.q_asg (d_lcS (z := z) smF id (d_var (a0.mono e1)) (by omega) (fun d hd hf => ?_) fun c hc x H2 e2 hx k hk => hk _ rfl (t_ofD (K := K) ?_) fun _ => d_var ⟨_, rfl, hx⟩) fun v1 H2 e2 h1 => ?_
      · obtain ⟨c, _, rfl⟩ := List.mem_map.mp hd
        rfl
      · exact d_chS (g1 := leS) (g2 := leS) d_str (d_var ⟨_, rfl, hx⟩) d_str
      have b0 : At K ((start nIsLetters [v]).set 1 (some v1)) H2 0 (.str z) := ⟨_, rfl, dp_ex (e1.trans e2) h0⟩
      refine AsKit.q_asg (d_lcR2 (lo := 1) (hi := z.length) (riF z) id (ds_cons d_int (ds_cons (d_lenS (d_var b0) hz1) ds_nil)) (by omega) (fun d hd hf => ?_) fun i hi x H3 e3 hx k hk => hk _ rfl (t_ofD (K := K) ?_) fun _ => d_var ⟨_, rfl, hx⟩) fun v2 H3 e3 h2 => ?_
      · obtain ⟨c, _, rfl⟩ := List.mem_map.mp hd
        rfl
      · have hl : z.cps.toList.length = z.length := Array.length_toList
        have hA : ∀ n : Nat, n < z.length → ∃ c, atI z.cps.toList (n : Int) = some c := fun n hn => ⟨_, atI_nat (List.getElem?_eq_getElem (by omega))⟩
        obtain ⟨p1, q1⟩ := hA i (by omega)
        obtain ⟨p2, q2⟩ := hA (i + 1) (by omega)
        have x1 : (1 : Int) + (i : Int) - 1 = (i : Int) := by omega
        have x2 : (1 : Int) + (i : Int) = ((i + 1 : Nat) : Int) := by omega
        have r : riF z (.int (1 + i)) = decide ([p1] < [p2]) := by
          show (match atI z.cps.toList (1 + (i : Int) - 1), atI z.cps.toList (1 + (i : Int)) with
            | some a, some b => decide ([a] < [b])
            | _, _ => false) = _
          rw [x1, x2, q1, q2]
        rw [r]
        have c0 : At K ((wipe (((start nIsLetters [v]).set 1 (some v1))) [4]).set 4 (some x)) H3 0 (.str z) := ⟨_, rfl, dp_ex ((e1.trans e2).trans e3) h0⟩
        have c4 : At K ((wipe (((start nIsLetters [v]).set 1 (some v1))) [4]).set 4 (some x)) H3 4 (.int (1 + i)) := ⟨_, rfl, hx⟩
        exact d_cmpS (g := fun i j => decide (i.cps.toList < j.cps.toList)) (d_ixS (c := p1) (d_var c0) (d_arI (g := fun i j => i - j) (d_var c4) d_int) hz1 (by rw [x1]; exact q1)) (d_ixS (c := p2) (d_var c0) (d_var c4) hz1 (by rw [x2]; exact q2))
      have c0 : At K (((start nIsLetters [v]).set 1 (some v1)).set 2 (some v2)) H3 0 (.str z) := ⟨_, rfl, dp_ex ((e1.trans e2).trans e3) h0⟩
      have c1 : At K (((start nIsLetters [v]).set 1 (some v1)).set 2 (some v2)) H3 1 _ := ⟨_, rfl, dp_ex e3 h1⟩
      have c2 : At K (((start nIsLetters [v]).set 1 (some v1)).set 2 (some v2)) H3 2 _ := ⟨_, rfl, h2⟩
      refine AsKit.s_ret (K := K) (d_and (d_eqI (d_lenL (d_var c1)) (d_lenS (d_var c0) hz1)) fun _ => d_eqI (d_lenL (d_var c2)) (d_arI (g := fun i j => i - j) (d_lenS (d_var c0) hz1) d_int)) fun u H4 e4 hu => q u H4 (((e1.trans e2).trans e3).trans e4) ?_
      show Dp K H4 u (.bool (isLettersD (.str z)))
      show Dp K H4 u (.bool (isLetS z))
      unfold isLetS
      rw [hb2, Bool.true_and]
      exact hu
  · have hs : isD "str" d = false := by simpa using hs
    refine Evl.q_when (b := !(isD "str" d) || false) (Evl.et_or (Evl.et_not (t_ofB (d_isD (d_var a0)))) fun h => by rw [hs] at h; cases h) (fun hb1 H1 e1 => AsKit.s_ret (K := K) d_bl fun u H2 e2 hu => q u H2 (e1.trans e2) ?_) fun hb1 => by rw [hs] at hb1; cases hb1
    have : isLettersD d = false := by
      cases d with
      | str z => rw [isD_str1] at hs; cases hs
      | _ => rfl
    show Dp K H2 u (.bool (isLettersD d))
    rw [this]
    exact hu
abbrev nIsText : List Str := ["letters", "value", "letter"]
theorem sc_is_text : FnScope nIsText ["letters", "value"] (defScope sIsText) := ⟨rfl, rfl, rfl, by decide +kernel, rfl, by decide +kernel, by decide +kernel⟩
def allIn (y z : Str) : Bool := z.cps.toList.all fun c => decide (c ∈ y.cps.toList)
def isTextD : PyData → PyData → Bool
  | .str y, .str z => allIn y z
  | _, _ => false
theorem isTextD_no {l d : PyData} (h : isD "str" d = false) : isTextD l d = false := by
  cases d with
  | str z => rw [isD_str1] at h; cases h
  | _ => cases l <;> rfl
abbrev spIsText (K : PySem.W.Frag) : Sp := spP K (fun ds => ∃ y d, ds = [.str y, d] ∧ Tx d) (two fun l d => .bool (isTextD l d))
theorem c_is_text (D : Df K mg "is_text" sIsText) (hb : Bl mg) : Cl P w K mg base 1 "is_text" (spIsText K) [] := by
  refine cl_of D sc_is_text (len_sp fun ds ⟨y, d, h, _⟩ => by rw [h]; rfl) (fun _ _ _ _ _ _ us hl => match us, hl with | [_, _], _ => rfl) fun f cdv A outer s H vs Q E hr h => ?_
  obtain ⟨ds, hd, ⟨y, d, rfl, ht⟩, q⟩ := h
  obtain ⟨v, v2, rfl, h0, h1⟩ := dp2 hd
  refine ⟨_, pss_one (ps_ret (pe_and (pe_isi (x := "str") (T := "str") hb (pv 1)) (pe_one (pe_allL rfl hb (pe_lcn 2 sc_is_text.nd (pi_str (pv 1)) (fun _ _ _ _ _ => pts_nil) (fun _ _ _ _ _ => pe_cmpR op_inS (pv 2) (pv 0) rfl) (fun _ _ _ _ _ => pg_name sc_is_text.nd rfl (.inl rfl)) (blkOk_by (N := nIsText) (sc := defScope sIsText) (own := [("letter", 2)]) (by decide +kernel)) rfl))))), ?_⟩
  have a0 : At K (start nIsText [v, v2]) H 0 (.str y) := ⟨_, rfl, h0⟩
  have a1 : At K (start nIsText [v, v2]) H 1 d := ⟨_, rfl, h1⟩
  by_cases hs : isD "str" d = true
  · obtain ⟨z, rfl⟩ := isD_str hs
    have hz : z.length ≤ 40000 := ht z rfl
    refine AsKit.s_ret (K := K) (d_and (b := allIn y z) (d_isD (d_var a1)) fun _ => ?_) fun u H2 e2 hu => q u H2 e2 ?_
    · have e : (((sgns z).filter fun _ => true).map fun d => PyData.bool (match d with | .str ⟨#[c]⟩ => decide (c ∈ y.cps.toList) | _ => false)) = (z.cps.toList.map fun c => decide (c ∈ y.cps.toList)).map PyData.bool := by
        rw [List.filter_eq_self.mpr fun _ _ => rfl]
        unfold sgns
        rw [List.map_map, List.map_map]
        rfl
      refine d_eqTo (d_all (bs := z.cps.toList.map fun c => decide (c ∈ y.cps.toList)) (d_eqTo (d_lcS (z := z) (fun _ => true) (fun d => PyData.bool (match d with | .str ⟨#[c]⟩ => decide (c ∈ y.cps.toList) | _ => false)) (d_var a1) (by omega) (fun _ _ _ => rfl) fun c hc x H2 e2 hx k hk => hk _ rfl (fun H3 e3 Q q => q H3 (Ex.refl H3)) fun _ => ?_) (congrArg PyData.list e))) ?_
      · exact d_inS (d_var ⟨_, rfl, hx⟩) (d_var ⟨_, rfl, dp_ex e2 h0⟩)
      · unfold allIn
        rw [List.all_map]
        rfl
    · show Dp K H2 u (.bool (allIn y z))
      rw [hs, Bool.true_and] at hu
      exact hu
  · have hs : isD "str" d = false := by simpa using hs
    refine AsKit.s_ret (K := K) (d_and (b := true) (d_isD (d_var a1)) fun h => by rw [hs] at h; cases h) fun u H2 e2 hu => q u H2 e2 ?_
    show Dp K H2 u (.bool (isTextD (.str y) d))
    rw [isTextD_no hs]
    rw [hs, Bool.false_and] at hu
    exact hu
abbrev nIsTextWithin : List Str := ["letters", "value", "longest"]
theorem sc_is_text_within : FnScope nIsTextWithin ["letters", "value", "longest"] (defScope sIsTextWithin) := ⟨rfl, rfl, rfl, by decide +kernel, rfl, by decide +kernel, by decide +kernel⟩
def withinS (y z : Str) (n : Int) : Bool := decide ((z.length : Int) ≤ n) && allIn y z
def withinD (y : Str) (n : Int) : PyData → Bool
  | .str z => withinS y z n
  | _ => false
theorem withinD_no {y : Str} {n : Int} {d : PyData} (h : isD "str" d = false) : withinD y n d = false := by
  cases d with
  | str z => rw [isD_str1] at h; cases h
  | _ => rfl
def tw3 : PyData → PyData → PyData → PyData
  | .str y, d, .int n => .bool (withinD y n d)
  | _, _, _ => .none
abbrev spIsTextWithin (K : PySem.W.Frag) : Sp := spP K (fun ds => ∃ y d n, ds = [.str y, d, .int n] ∧ Tx d) (three tw3)
theorem c_is_text_within (D : Df K mg "is_text_within" sIsTextWithin) (hb : Bl mg) (C1 : Cl P w K mg base 1 "is_text" (spIsText K) []) : Cl P w K mg base 2 "is_text_within" (spIsTextWithin K) [] := by
  refine cl_of D sc_is_text_within (len_sp fun ds ⟨y, d, n, h, _⟩ => by rw [h]; rfl) (fun _ _ _ _ _ _ us hl => match us, hl with | [_, _, _], _ => rfl) fun f cdv A outer s H vs Q E hr h => ?_
  obtain ⟨ds, hd, ⟨y, d, n, rfl, ht⟩, q⟩ := h
  obtain ⟨v, v2, v3, rfl, h0, h1, h2⟩ := dp3 hd
  refine ⟨_, pss_one (ps_ret (pe_and (pe_isi (x := "str") (T := "str") hb (pv 1)) (pe_and (pe_cmpR op_le (pe_lenS hb (pv 1)) (pv 2) (nomark _)) (pe_one (C8.pe_c C1 hr (by decide) (by rfl) (pa_cons (pv 0) (pa_cons (pv 1) pa_nil))))))), ?_⟩
  have a0 : At K (start nIsTextWithin [v, v2, v3]) H 0 (.str y) := ⟨_, rfl, h0⟩
  have a1 : At K (start nIsTextWithin [v, v2, v3]) H 1 d := ⟨_, rfl, h1⟩
  have a2 : At K (start nIsTextWithin [v, v2, v3]) H 2 (.int n) := ⟨_, rfl, h2⟩
  by_cases hs : isD "str" d = true
  · obtain ⟨z, rfl⟩ := isD_str hs
    have hz : z.length ≤ 40000 := ht z rfl
    refine AsKit.s_ret (K := K) (d_and (b := withinS y z n) (d_isD (d_var a1)) fun _ => d_and (d_cmpI (g := fun i j => decide (i ≤ j)) (d_lenS (d_var a1) (by omega)) (d_var a2)) fun _ => d_call (ds_cons (d_var a0) (ds_cons (d_var a1) ds_nil)) ⟨y, .str z, rfl, ht⟩) fun u H2 e2 hu => q u H2 e2 ?_
    show Dp K H2 u (.bool (withinS y z n))
    rw [hs, Bool.true_and] at hu
    exact hu
  · have hs : isD "str" d = false := by simpa using hs
    refine AsKit.s_ret (K := K) (d_and (b := true) (d_isD (d_var a1)) fun h => by rw [hs] at h; cases h) fun u H2 e2 hu => q u H2 e2 ?_
    show Dp K H2 u (.bool (withinD y n d))
    rw [withinD_no hs]
    rw [hs, Bool.false_and] at hu
    exact hu
theorem two_of : ∀ {es : List PyData}, es.length = 2 → ∃ a b, es = [a, b]
  | [a, b], _ => ⟨a, b, rfl⟩
abbrev nIsKind : List Str := ["letters", "value", "left", "right"]
theorem sc_is_kind : FnScope nIsKind ["letters", "value"] (defScope sIsKind) := ⟨rfl, rfl, rfl, by decide +kernel, rfl, by decide +kernel, by decide +kernel⟩
def neS : PyData → PyData → Bool
  | .str a, .str b => !decide (a = b)
  | _, _ => false
def kindD (y : Str) : PyData → Bool
  | .tuple [a, b] => (withinD y 3 a && withinD y 1 b) && neS a b
  | _ => false
theorem kindD_no {y : Str} {d : PyData} (h : isD "tuple" d = false) : kindD y d = false := by
  cases d with
  | tuple z => rw [isD_tup1] at h; cases h
  | _ => rfl
theorem kindD_len {y : Str} {ds : List PyData} (h : ds.length ≠ 2) : kindD y (.tuple ds) = false := by
  match ds, h with
  | [], _ => rfl
  | [_], _ => rfl
  | [_, _], h => exact (h rfl).elim
  | _ :: _ :: _ :: _, _ => rfl
/-- the items' texts are of a length that can be told -/
def TxK (d : PyData) : Prop := ∀ ds, d = .tuple ds → ∀ e ∈ ds, Tx e
def kd2 : PyData → PyData → PyData
  | .str y, d => .bool (kindD y d)
  | _, _ => .none
abbrev spIsKind (K : PySem.W.Frag) : Sp := spP K (fun ds => ∃ y d, ds = [.str y, d] ∧ TxK d) (two kd2)
theorem withinD_str {y : Str} {n : Int} {d : PyData} (h : withinD y n d = true) : ∃ z, d = .str z := by
  cases d with
  | str z => exact ⟨z, rfl⟩
  | _ => cases h
theorem c_is_kind (D : Df K mg "is_kind" sIsKind) (hb : Bl mg) (g3 : Gn mg "LONGEST_LEFT" 3) (g1 : Gn mg "LONGEST_RIGHT" 1) (C1 : Cl P w K mg base 2 "is_text_within" (spIsTextWithin K) []) : Cl P w K mg base 3 "is_kind" (spIsKind K) [] := by
  refine cl_of D sc_is_kind (len_sp fun ds ⟨y, d, h, _⟩ => by rw [h]; rfl) (fun _ _ _ _ _ _ us hl => match us, hl with | [_, _], _ => rfl) fun f cdv A outer s H vs Q E hr h => ?_
  obtain ⟨ds, hd, ⟨y, d, rfl, ht⟩, q⟩ := h
  obtain ⟨v, v2, rfl, h0, h1⟩ := dp2 hd
  refine ⟨_, pss_cons (ps_if (pw_or (pt_not (pt_val (pe_isi (x := "tuple") (T := "tuple") hb (pv 1)))) (pw_or1 (pt_cmpR op_ne (pe_lenQ hb (pv 1)) pe_int (nomark _)))).pt (pss_one (ps_ret pe_bl)) pss_nil)
    (pss_cons (ps_asg (pv 1) (pg_tup rfl (pgs_cons (pg_name (i := 2) sc_is_kind.nd rfl (.inl rfl)) (pgs_cons (pg_name (i := 3) sc_is_kind.nd rfl (.inl rfl)) pgs_nil))))
    (pss_cons (ps_if (pw_or (pt_not (pt_val (C8.pe_c C1 hr (by decide) (by rfl) (pa_cons (pv 0) (pa_cons (pv 2) (pa_cons (pe_gn g3) pa_nil)))))) (pw_or1 (pt_not (pt_val (C8.pe_c C1 hr (by decide) (by rfl) (pa_cons (pv 0) (pa_cons (pv 3) (pa_cons (pe_gn g1) pa_nil)))))))).pt (pss_one (ps_ret pe_bl)) pss_nil)
    (pss_one (ps_ret (pe_cmpR op_ne (pv 2) (pv 3) (nomark _)))))), ?_⟩
  have a0 : At K (start nIsKind [v, v2]) H 0 (.str y) := ⟨_, rfl, h0⟩
  have a1 : At K (start nIsKind [v, v2]) H 1 d := ⟨_, rfl, h1⟩
  by_cases hs : isD "tuple" d = true
  · obtain ⟨es, rfl⟩ := isD_tup hs
    refine Evl.q_when (b := !(isD "tuple" (.tuple es)) || !decide ((es.length : Int) = 2)) (Evl.et_or (Evl.et_not (t_ofB (d_isD (d_var a1)))) fun _ => t_ofD (d_neI (d_lenT (d_var a1)) d_int)) (fun hb1 H1 e1 => AsKit.s_ret (K := K) d_bl fun u H2 e2 hu => q u H2 (e1.trans e2) ?_) fun hb1 H1 e1 => ?_
    · rw [hs, Bool.not_true, Bool.false_or] at hb1
      have hl : es.length ≠ 2 := fun z => by rw [z] at hb1; cases hb1
      show Dp K H2 u (.bool (kindD y (.tuple es)))
      rw [kindD_len hl]
      exact hu
    · rw [hs, Bool.not_true, Bool.false_or] at hb1
      have hl : es.length = 2 := by
        have z := of_decide_eq_true (by simpa using hb1 : decide ((es.length : Int) = 2) = true)
        omega
      obtain ⟨a, b, rfl⟩ := two_of hl
      have ta : Tx a := ht _ rfl a (by simp)
      have tb : Tx b := ht _ rfl b (by simp)
      refine ⟨v2, rfl, g_two (dp_ex e1 h1) fun va vb ha hb2 => ?_⟩
      have c0 : At K (((start nIsKind [v, v2]).set 2 (some va)).set 3 (some vb)) H1 0 (.str y) := ⟨_, rfl, dp_ex e1 h0⟩
      have c2 : At K (((start nIsKind [v, v2]).set 2 (some va)).set 3 (some vb)) H1 2 a := ⟨_, rfl, ha⟩
      have c3 : At K (((start nIsKind [v, v2]).set 2 (some va)).set 3 (some vb)) H1 3 b := ⟨_, rfl, hb2⟩
      dsimp only
      refine Evl.q_when (b := !(withinD y 3 a) || !(withinD y 1 b)) (Evl.et_or (Evl.et_not (t_ofB (d_call (ds_cons (d_var c0) (ds_cons (d_var c2) (ds_cons d_int ds_nil))) ⟨y, a, 3, rfl, ta⟩))) fun _ => Evl.et_not (t_ofB (d_call (ds_cons (d_var c0) (ds_cons (d_var c3) (ds_cons d_int ds_nil))) ⟨y, b, 1, rfl, tb⟩)))
        (fun hb3 H2 e2 => AsKit.s_ret (K := K) d_bl fun u H3 e3 hu => q u H3 ((e1.trans e2).trans e3) ?_) fun hb3 H2 e2 => ?_
      · have z : (withinD y 3 a && withinD y 1 b) = false := by rw [← Bool.not_and] at hb3; exact (Bool.not_eq_true' _).mp hb3
        show Dp K H3 u (.bool ((withinD y 3 a && withinD y 1 b) && neS a b))
        rw [z, Bool.false_and]
        exact hu
      · have z : withinD y 3 a = true ∧ withinD y 1 b = true := by simpa using hb3
        obtain ⟨xa, rfl⟩ := withinD_str z.1
        obtain ⟨xb, rfl⟩ := withinD_str z.2
        refine AsKit.s_ret (K := K) (d_neS (d_var (c2.mono e2)) (d_var (c3.mono e2))) fun u H3 e3 hu => q u H3 ((e1.trans e2).trans e3) ?_
        show Dp K H3 u (.bool ((withinD y 3 (.str xa) && withinD y 1 (.str xb)) && !decide (xa = xb)))
        rw [z.1, z.2, Bool.true_and, Bool.true_and]
        exact hu
  · have hs : isD "tuple" d = false := by simpa using hs
    refine Evl.q_when (b := !(isD "tuple" d) || false) (Evl.et_or (Evl.et_not (t_ofB (d_isD (d_var a1)))) fun h => by rw [hs] at h; cases h) (fun hb1 H1 e1 => AsKit.s_ret (K := K) d_bl fun u H2 e2 hu => q u H2 (e1.trans e2) ?_) fun hb1 => by rw [hs] at hb1; cases hb1
    show Dp K H2 u (.bool (kindD y d))
    rw [kindD_no hs]
    exact hu
abbrev nIsLot : List Str := ["letters", "value", "kind"]
theorem sc_is_lot : FnScope nIsLot ["letters", "value"] (defScope sIsLot) := ⟨rfl, rfl, rfl, by decide +kernel, rfl, by decide +kernel, by decide +kernel⟩
def pairOf : PyData → Str × Str
  | .tuple [.str a, .str b] => (a, b)
  | _ => ("", "")
theorem kD_pair {y : Str} {d : PyData} (h : kindD y d = true) : d = kD (pairOf d) := by
  match d, h with
  | .tuple [a, b], h =>
    have h2 : ((withinD y 3 a && withinD y 1 b) && neS a b) = true := h
    simp only [Bool.and_eq_true] at h2
    obtain ⟨xa, rfl⟩ := withinD_str h2.1.1
    obtain ⟨xb, rfl⟩ := withinD_str h2.1.2
    rfl
def lotL (y : Str) (ds : List PyData) : Bool := decide (ds.length ≤ 12) && (ds.all (kindD y) && decide (ds.map pairOf).Nodup)
def lotD (y : Str) : PyData → Bool
  | .tuple ds => lotL y ds
  | _ => false
theorem lotD_no {y : Str} {d : PyData} (h : isD "tuple" d = false) : lotD y d = false := by
  cases d with
  | tuple z => rw [isD_tup1] at h; cases h
  | _ => rfl
def TxL (d : PyData) : Prop := ∀ ds, d = .tuple ds → ∀ e ∈ ds, TxK e
def lt2 : PyData → PyData → PyData
  | .str y, d => .bool (lotD y d)
  | _, _ => .none
abbrev spIsLot (K : PySem.W.Frag) : Sp := spP K (fun ds => ∃ y d, ds = [.str y, d] ∧ TxL d) (two lt2)
theorem c_is_lot (D : Df K mg "is_lot" sIsLot) (hb : Bl mg) (g12 : Gn mg "MOST_KINDS" 12) (C1 : Cl P w K mg base 3 "is_kind" (spIsKind K) []) : Cl P w K mg base 4 "is_lot" (spIsLot K) [] := by
  refine cl_of D sc_is_lot (len_sp fun ds ⟨y, d, h, _⟩ => by rw [h]; rfl) (fun _ _ _ _ _ _ us hl => match us, hl with | [_, _], _ => rfl) fun f cdv A outer s H vs Q E hr h => ?_
  obtain ⟨ds, hd, ⟨y, d, rfl, ht⟩, q⟩ := h
  obtain ⟨v, v2, rfl, h0, h1⟩ := dp2 hd
  refine ⟨_, pss_cons (ps_if (pw_or (pt_not (pt_val (pe_isi (x := "tuple") (T := "tuple") hb (pv 1)))) (pw_or1 (pt_cmpR op_gt (pe_lenQ hb (pv 1)) (pe_gn g12) (nomark _)))).pt (pss_one (ps_ret pe_bl)) pss_nil)
    (pss_one (ps_ret (pe_and (pe_allL rfl hb (pe_lcn 2 sc_is_lot.nd (pi_tup (pv 1)) (fun _ _ _ _ _ => pts_nil) (fun s2 H2 C cl fp => C8.pe_c C1 hr (by decide) (by rfl) (pa_cons (pv 0) (pa_cons (pv 2) pa_nil))) (fun _ _ _ _ _ => pg_name sc_is_lot.nd rfl (.inl rfl)) (blkOk_by (N := nIsLot) (sc := defScope sIsLot) (own := [("kind", 2)]) (by decide +kernel)) rfl))
      (pe_one (pe_cmpR op_eq (AsSet.pe_lenSet hr (by rfl) (hb _ (by decide +kernel)) (by rfl) (hb _ (by decide +kernel)) (pv 1)) (pe_lenQ hb (pv 1)) (nomark _)))))), ?_⟩
  have a0 : At K (start nIsLot [v, v2]) H 0 (.str y) := ⟨_, rfl, h0⟩
  have a1 : At K (start nIsLot [v, v2]) H 1 d := ⟨_, rfl, h1⟩
  by_cases hs : isD "tuple" d = true
  · obtain ⟨es, rfl⟩ := isD_tup hs
    refine Evl.q_when (b := !(isD "tuple" (.tuple es)) || decide ((12 : Int) < (es.length : Int))) (Evl.et_or (Evl.et_not (t_ofB (d_isD (d_var a1)))) fun _ => t_ofD (d_cmpI (g := fun i j => decide (j < i)) (d_lenT (d_var a1)) d_int)) (fun hb1 H1 e1 => AsKit.s_ret (K := K) d_bl fun u H2 e2 hu => q u H2 (e1.trans e2) ?_) fun hb1 H1 e1 => ?_
    · rw [hs, Bool.not_true, Bool.false_or] at hb1
      have hl : ¬ es.length ≤ 12 := fun z => by have := of_decide_eq_true hb1; omega
      show Dp K H2 u (.bool (lotL y es))
      unfold lotL
      rw [decide_eq_false hl, Bool.false_and]
      exact hu
    · rw [hs, Bool.not_true, Bool.false_or] at hb1
      have hl : es.length ≤ 12 := by have := of_decide_eq_false hb1; omega
      refine AsKit.s_ret (K := K) (d_and (a := es.all (kindD y)) (b := decide (es.map pairOf).Nodup) ?_ fun hk => ?_) fun u H2 e2 hu => q u H2 (e1.trans e2) ?_
      · have e : ((es.filter fun _ => true).map fun d => PyData.bool (kindD y d)) = (es.map (kindD y)).map PyData.bool := by
          rw [List.filter_eq_self.mpr fun _ _ => rfl, List.map_map]
          rfl
        refine d_eqTo (d_all (bs := es.map (kindD y)) (d_eqTo (d_lcT (fun _ => true) (fun d => PyData.bool (kindD y d)) (d_var (a1.mono e1)) (by omega) (fun _ _ _ => rfl) fun d hd x H2 e2 hx k hk => hk _ rfl (fun H3 e3 Q q => q H3 (Ex.refl H3)) fun _ => ?_) (congrArg PyData.list e))) ?_
        · exact d_call (ds_cons (d_var ⟨_, rfl, dp_ex (e1.trans e2) h0⟩) (ds_cons (d_var ⟨_, rfl, hx⟩) ds_nil)) ⟨y, d, rfl, ht _ rfl d hd⟩
        · rw [List.all_map]
          rfl
      · have e : es = (es.map pairOf).map kD := by
          rw [List.map_map]
          refine (List.map_id'' (fun _ => rfl) es).symm.trans (List.map_congr_left fun d hd => ?_)
          exact kD_pair (List.all_eq_true.mp hk d hd)
        refine d_lenSetEq (d_eqTo (d_var (a1.mono e1)) (congrArg PyData.tuple e)) (by rw [List.length_map]; omega)
      · show Dp K H2 u (.bool (lotL y es))
        unfold lotL
        rw [decide_eq_true hl, Bool.true_and]
        exact hu
  · have hs : isD "tuple" d = false := by simpa using hs
    refine Evl.q_when (b := !(isD "tuple" d) || false) (Evl.et_or (Evl.et_not (t_ofB (d_isD (d_var a1)))) fun h => by rw [hs] at h; cases h) (fun hb1 H1 e1 => AsKit.s_ret (K := K) d_bl fun u H2 e2 hu => q u H2 (e1.trans e2) ?_) fun hb1 => by rw [hs] at hb1; cases hb1
    show Dp K H2 u (.bool (lotD y d))
    rw [lotD_no hs]
    exact hu
end
end K14

set_option maxHeartbeats 4000000
set_option autoImplicit false
namespace K14
open PySem PySem.Spec PyProof.Rows L2 AsSort AsKit
open Evl (Ex Ev EvT EvA)
abbrev sTextBehind : Stmt := top 59
abbrev sIsDeedOn : Stmt := top 60
section
variable {P : Program} {w : World} {K : PySem.W.Frag} {mg : Str → Option Value} {base : Heap}
theorem sc_check_letters : FnScope ["letters"] ["letters"] (defScope sCheckLetters) := ⟨rfl, rfl, rfl, by decide +kernel, rfl, by decide +kernel, by decide +kernel⟩
abbrev non1 : List PyData → PyData := fun _ => .none
abbrev spCheckLetters (K : PySem.W.Frag) : Sp := spP K (fun ds => ∃ d, ds = [d] ∧ Tx d ∧ isLettersD d = true) non1
theorem c_check_letters (D : Df K mg "check_letters" sCheckLetters) (C1 : Cl P w K mg base 1 "is_letters" (spIsLetters K) []) : Cl P w K mg base 2 "check_letters" (spCheckLetters K) [] := by
  refine cl_of D sc_check_letters (len_sp fun ds ⟨d, h, _⟩ => by rw [h]; rfl) (fun _ _ _ _ _ _ us hl => match us, hl with | [_], _ => rfl) fun f cdv A outer s H vs Q E hr h => ?_
  obtain ⟨ds, hd, ⟨d, rfl, ht, hk⟩, q⟩ := h
  obtain ⟨v, rfl, h0⟩ := dp1 hd
  refine ⟨_, pss_one (ps_if (pt_not (pt_val (C8.pe_c C1 hr (by decide) (by rfl) (pa_cons (pv 0) pa_nil)))) pss_never pss_nil), ?_⟩
  exact Evl.s_if (b := !(isLettersD d)) (Evl.et_not (t_ofB (d_call (ds_cons (d_var ⟨_, rfl, h0⟩) ds_nil) ⟨d, rfl, ht⟩))) (fun hb1 => by rw [hk] at hb1; cases hb1) fun _ H1 e1 => q .non H1 e1 .non
theorem sc_check_text : FnScope ["letters", "text"] ["letters", "text"] (defScope sCheckText) := ⟨rfl, rfl, rfl, by decide +kernel, rfl, by decide +kernel, by decide +kernel⟩
abbrev spCheckText (K : PySem.W.Frag) : Sp := spP K (fun ds => ∃ y d, ds = [.str y, d] ∧ Tx d ∧ withinD y 40 d = true) non1
theorem c_check_text (D : Df K mg "check_text" sCheckText) (g40 : Gn mg "LONGEST_TEXT" 40) (C1 : Cl P w K mg base 2 "is_text_within" (spIsTextWithin K) []) : Cl P w K mg base 3 "check_text" (spCheckText K) [] := by
  refine cl_of D sc_check_text (len_sp fun ds ⟨y, d, h, _⟩ => by rw [h]; rfl) (fun _ _ _ _ _ _ us hl => match us, hl with | [_, _], _ => rfl) fun f cdv A outer s H vs Q E hr h => ?_
  obtain ⟨ds, hd, ⟨y, d, rfl, ht, hk⟩, q⟩ := h
  obtain ⟨v, v2, rfl, h0, h1⟩ := dp2 hd
  refine ⟨_, pss_one (ps_if (pt_not (pt_val (C8.pe_c C1 hr (by decide) (by rfl) (pa_cons (pv 0) (pa_cons (pv 1) (pa_cons (pe_gn g40) pa_nil)))))) pss_never pss_nil), ?_⟩
  exact Evl.s_if (b := !(withinD y 40 d)) (Evl.et_not (t_ofB (d_call (ds_cons (d_var ⟨_, rfl, h0⟩) (ds_cons (d_var ⟨_, rfl, h1⟩) (ds_cons d_int ds_nil))) ⟨y, d, 40, rfl, ht⟩))) (fun hb1 => by rw [hk] at hb1; cases hb1) fun _ H1 e1 => q .non H1 e1 .non
theorem sc_check_kinds : FnScope ["letters", "kinds"] ["letters", "kinds"] (defScope sCheckKinds) := ⟨rfl, rfl, rfl, by decide +kernel, rfl, by decide +kernel, by decide +kernel⟩
abbrev spCheckKinds (K : PySem.W.Frag) : Sp := spP K (fun ds => ∃ y d, ds = [.str y, d] ∧ TxL d ∧ lotD y d = true) non1
theorem c_check_kinds (D : Df K mg "check_kinds" sCheckKinds) (C1 : Cl P w K mg base 4 "is_lot" (spIsLot K) []) : Cl P w K mg base 5 "check_kinds" (spCheckKinds K) [] := by
  refine cl_of D sc_check_kinds (len_sp fun ds ⟨y, d, h, _⟩ => by rw [h]; rfl) (fun _ _ _ _ _ _ us hl => match us, hl with | [_, _], _ => rfl) fun f cdv A outer s H vs Q E hr h => ?_
  obtain ⟨ds, hd, ⟨y, d, rfl, ht, hk⟩, q⟩ := h
  obtain ⟨v, v2, rfl, h0, h1⟩ := dp2 hd
  refine ⟨_, pss_one (ps_if (pt_not (pt_val (C8.pe_c C1 hr (by decide) (by rfl) (pa_cons (pv 0) (pa_cons (pv 1) pa_nil))))) pss_never pss_nil), ?_⟩
  exact Evl.s_if (b := !(lotD y d)) (Evl.et_not (t_ofB (d_call (ds_cons (d_var ⟨_, rfl, h0⟩) (ds_cons (d_var ⟨_, rfl, h1⟩) ds_nil)) ⟨y, d, rfl, ht⟩))) (fun hb1 => by rw [hk] at hb1; cases hb1) fun _ H1 e1 => q .non H1 e1 .non
/-- letters, kinds, a text, as they should be -/
def Okay (l k t : PyData) : Prop := ∃ (y z : Str) (ps : List (Str × Str)), l = .str y ∧ k = .tuple (ps.map kD) ∧ t = .str z ∧ PyData.strOk y = true ∧ y.length ≤ 40000 ∧ isLetS y = true ∧ z.length ≤ 40 ∧ allIn y z = true ∧ ps.length ≤ 12 ∧ ps.Nodup ∧
  ∀ p ∈ ps, p.1.length ≤ 3 ∧ p.2.length ≤ 1 ∧ allIn y p.1 = true ∧ allIn y p.2 = true ∧ p.1 ≠ p.2
theorem pair_kD (p : Str × Str) : pairOf (kD p) = p := rfl
theorem lot_ok {y : Str} {ps : List (Str × Str)} (h1 : ps.length ≤ 12) (h2 : ps.Nodup) (h3 : ∀ p ∈ ps, p.1.length ≤ 3 ∧ p.2.length ≤ 1 ∧ allIn y p.1 = true ∧ allIn y p.2 = true ∧ p.1 ≠ p.2) : lotD y (.tuple (ps.map kD)) = true := by
  show lotL y (ps.map kD) = true
  unfold lotL
  rw [List.length_map, decide_eq_true h1, Bool.true_and, List.map_map]
  have e : ps.map (pairOf ∘ kD) = ps := (List.map_congr_left fun p _ => pair_kD p).trans (List.map_id' ps)
  rw [e, decide_eq_true h2, Bool.and_true, List.all_map]
  refine List.all_eq_true.mpr fun p hp => ?_
  obtain ⟨a, b, c, d, n⟩ := h3 p hp
  show ((withinS y p.1 3 && withinS y p.2 1) && !decide (p.1 = p.2)) = true
  unfold withinS
  rw [c, d, decide_eq_false n, decide_eq_true (by omega : (p.1.length : Int) ≤ 3), decide_eq_true (by omega : (p.2.length : Int) ≤ 1)]
  rfl
theorem tx_kinds {ps : List (Str × Str)} (h3 : ∀ p ∈ ps, p.1.length ≤ 3 ∧ p.2.length ≤ 1) : TxL (.tuple (ps.map kD)) := fun ds e d hd es e2 u hu => by
  cases e
  obtain ⟨p, hp, rfl⟩ := List.mem_map.mp hd
  have z := h3 p hp
  cases e2
  intro x hx
  rcases List.mem_cons.mp hu with rfl | hu
  · cases hx
    omega
  · rcases List.mem_cons.mp hu with rfl | hu
    · cases hx
      omega
    · cases hu
abbrev spCheckDeedsOf (K : PySem.W.Frag) : Sp := spP K (fun ds => ∃ l k t, ds = [l, k, t] ∧ Okay l k t) non1
def oT (z : Str) : PyData := .tuple [.int (z.length : Int), .str z]
def ordT : PyData → PyData
  | .str z => oT z
  | _ => .none
abbrev spTextOrder (K : PySem.W.Frag) : Sp := spP K (fun ds => ∃ z, ds = [.str z] ∧ z.length ≤ 40000) (one ordT)
abbrev nKindOrder : List Str := ["kind", "left", "right"]
def oK (p : Str × Str) : PyData := .tuple [oT p.1, oT p.2]
def ordK (d : PyData) : PyData := oK (pairOf d)
abbrev spKindOrder (K : PySem.W.Frag) : Sp := spP K (fun ds => ∃ p : Str × Str, ds = [kD p] ∧ p.1.length ≤ 40000 ∧ p.2.length ≤ 40000) (one ordK)
end
end K14

set_option maxHeartbeats 4000000
set_option autoImplicit false
/-! the order of kinds, sorted and chosen from. -/
namespace K14
open PySem PySem.Spec PyProof.Rows L2 AsSort AsKit PySem.W
theorem len_eqS {a b : Str} (h : a.cps.toList = b.cps.toList) : a = b := PySem.W.str_of_cps h
/-- the flat key of the law's lambda -/
def fK (p : Str × Str) : PyData := .tuple [.int (p.1.length : Int), .str p.1, .int (p.2.length : Int), .str p.2]
theorem toks_oK (p : Str × Str) : keyToks (oK p) = [.inl 1, .inl 1, .inl (p.1.length : Int), .inl 1, .inr p.1.cps.toList, .inl 0, .inl 1, .inl 1, .inl (p.2.length : Int), .inl 1, .inr p.2.cps.toList, .inl 0, .inl 0] := by
  simp [oK, oT, keyToks, keyToksAll]
theorem toks_fK (p : Str × Str) : keyToks (fK p) = [.inl 1, .inl (p.1.length : Int), .inl 1, .inr p.1.cps.toList, .inl 1, .inl (p.2.length : Int), .inl 1, .inr p.2.cps.toList, .inl 0] := by
  simp [fK, keyToks, keyToksAll]
theorem lex_cong {x y : Int ⊕ List Nat} {l m l' m' : List (Int ⊕ List Nat)} (h : lexLt itemOrd l m = lexLt itemOrd l' m') : lexLt itemOrd (x :: l) (y :: m) = lexLt itemOrd (x :: l') (y :: m') := by
  by_cases e : x = y
  · subst e
    exact (lex_self (O := itemOrd) x l m).trans (h.trans (lex_self (O := itemOrd) x l' m').symm)
  · exact (lex_diff (O := itemOrd) e).trans (lex_diff (O := itemOrd) e).symm
theorem lexL {x : Int ⊕ List Nat} {l m l' m' : List (Int ⊕ List Nat)} (h : lexLt itemOrd l m = lexLt itemOrd l' m') : lexLt itemOrd (x :: l) (x :: m) = lexLt itemOrd l' m' := (lex_self (O := itemOrd) x l m).trans h
theorem lexR {x : Int ⊕ List Nat} {l m l' m' : List (Int ⊕ List Nat)} (h : lexLt itemOrd l m = lexLt itemOrd l' m') : lexLt itemOrd l m = lexLt itemOrd (x :: l') (x :: m') := h.trans (lex_self (O := itemOrd) x l' m').symm
theorem lt_same (p q : Str × Str) : dataLt (oK p) (oK q) = dataLt (fK p) (fK q) := by
  unfold dataLt
  rw [toks_oK, toks_oK, toks_fK, toks_fK]
  refine lexL (lex_cong (lex_cong (lex_cong (lex_cong (lexL (lexL ?_))))))
  exact lex_cong (lex_cong (lex_cong (lex_cong (lexL rfl))))
/-- the order of kinds -/
def leO (p q : Str × Str) : Bool := !dataLt (oK q) (oK p)
theorem toks_inj {p q : Str × Str} (h : keyToks (oK p) = keyToks (oK q)) : p = q := by
  rw [toks_oK, toks_oK] at h
  simp only [List.cons.injEq, Sum.inl.injEq, Sum.inr.injEq, true_and, and_true] at h
  exact Prod.ext (len_eqS h.2.1) (len_eqS h.2.2.2)
theorem leO_total (p q : Str × Str) : (leO p q || leO q p) = true := by
  unfold leO
  cases h1 : dataLt (oK q) (oK p) with
  | false => rfl
  | true =>
    cases h2 : dataLt (oK p) (oK q) with
    | false => rfl
    | true =>
      have z : lexLt itemOrd (keyToks (oK p)) (keyToks (oK p)) = true := lex_trans (O := itemOrd) _ _ _ h2 h1
      rw [lex_irrefl (O := itemOrd)] at z
      cases z
theorem leO_anti {p q : Str × Str} (h1 : leO p q = true) (h2 : leO q p = true) : p = q := by
  unfold leO at h1 h2
  exact toks_inj (lex_total (O := itemOrd) _ _ ((Bool.not_eq_true' _).mp h2) ((Bool.not_eq_true' _).mp h1))
theorem leO_trans (p q r : Str × Str) (h1 : leO p q = true) (h2 : leO q r = true) : leO p r = true := by
  unfold leO at h1 h2 ⊢
  rw [Bool.not_eq_true'] at h1 h2 ⊢
  cases h : dataLt (oK r) (oK p) with
  | false => rfl
  | true =>
    cases h3 : dataLt (oK p) (oK q) with
    | true =>
      have z : dataLt (oK r) (oK q) = true := lex_trans (O := itemOrd) _ _ _ h h3
      rw [h2] at z
      cases z
    | false =>
      have e := toks_inj (lex_total (O := itemOrd) _ _ h1 h3)
      rw [e] at h2
      rw [h] at h2
      cases h2
def sortO (ps : List (Str × Str)) : List (Str × Str) := ps.mergeSort leO
theorem sortO_filter (f : Str × Str → Bool) (ps : List (Str × Str)) : (sortO ps).filter f = sortO (ps.filter f) := by
  unfold sortO
  refine List.Perm.eq_of_pairwise (le := fun a b => leO a b = true) (fun a b _ _ h1 h2 => leO_anti h1 h2) ?_ ?_ ?_
  · exact (List.pairwise_mergeSort (le := leO) leO_trans leO_total ps).filter f
  · exact List.pairwise_mergeSort (le := leO) leO_trans leO_total _
  · exact ((List.mergeSort_perm ps leO).filter f).trans (List.mergeSort_perm (ps.filter f) leO).symm
theorem sortD_kinds (ps : List (Str × Str)) : sortD (fun d => one ordK [d]) (ps.map kD) = (sortO ps).map kD := by
  unfold sortD sortO
  refine (List.map_mergeSort fun a _ b _ => ?_).symm
  rw [dataLe_eq]
  rfl
/-- the flat key, by the pair's data -/
def flatK (d : PyData) : PyData := fK (pairOf d)
theorem sortD_flat (ps : List (Str × Str)) : sortD (fun d => one flatK [d]) (ps.map kD) = (sortO ps).map kD := by
  unfold sortD sortO
  refine (List.map_mergeSort fun a _ b _ => ?_).symm
  rw [dataLe_eq]
  show leO a b = !dataLt (fK b) (fK a)
  unfold leO
  rw [lt_same]
/-- does the kind fit the text at p -/
def hitB (t : Str) (p : Nat) (k : Str × Str) : Bool := decide ((t.cps.toList.drop p).take k.1.length = k.1.cps.toList)
theorem hit_cut (t : Str) (p : Nat) (k : Str × Str) : decide (cutS t (some (p : Int)) (some ((p + k.1.length : Nat) : Int)) = k.1) = hitB t p k := by
  unfold hitB
  rw [← cut_mid]
  by_cases h : cutS t (some (p : Int)) (some ((p + k.1.length : Nat) : Int)) = k.1
  · rw [decide_eq_true h, decide_eq_true (by rw [h])]
  · rw [decide_eq_false h, decide_eq_false fun z => h (len_eqS z)]
theorem hit_starts (t : Str) (p : Nat) (k : Str × Str) : Txt.startswith (cutS t (some (p : Int)) none) k.1 = hitB t p k := by
  have e : (cutS t (some (p : Int)) none).cps.toList.length = (cutS t (some (p : Int)) none).length := Array.length_toList
  have e2 : k.1.cps.toList.length = k.1.length := Array.length_toList
  unfold Txt.startswith hitB
  rw [StrLaws.subAt_eq, cut_from, List.drop_zero]
  rw [cut_from] at e
  by_cases h : (t.cps.toList.drop p).take k.1.length = k.1.cps.toList
  · have hl := congrArg List.length h
    rw [List.length_take] at hl
    rw [decide_eq_true h, h]
    have : decide (0 + k.1.length ≤ (cutS t (some (p : Int)) none).length) = true := decide_eq_true (by omega)
    rw [this]
    simp
  · rw [decide_eq_false h]
    have : ((t.cps.toList.drop p).take k.1.length == k.1.cps.toList) = false := by simpa using h
    rw [this, Bool.and_false]
/-- a deed -/
def dD (p : Nat) (k : Str × Str) : PyData := .tuple [.int (p : Int), .str k.1, .str k.2]
def hits (os : List (Str × Str)) (t : Str) (p : Nat) : List PyData := (os.filter (hitB t p)).map (dD p)
def hitsTo (os : List (Str × Str)) (t : Str) (n : Nat) : List PyData := (List.range n).flatMap (hits os t)
theorem hitsTo_succ (os : List (Str × Str)) (t : Str) (n : Nat) : hitsTo os t (n + 1) = hitsTo os t n ++ hits os t n := by
  unfold hitsTo
  rw [List.range_succ, List.flatMap_append]
  simp
/-- all deeds on a text, by the kinds -/
def deedsL (ps : List (Str × Str)) (t : Str) : List PyData := hitsTo (sortO ps) t (t.length + 1)
theorem hits_len (os : List (Str × Str)) (t : Str) (p : Nat) : (hits os t p).length ≤ os.length := by
  unfold hits
  rw [List.length_map]
  exact List.length_filter_le _ _
theorem hitsTo_len (os : List (Str × Str)) (t : Str) : ∀ n, (hitsTo os t n).length ≤ n * os.length
  | 0 => Nat.zero_le _
  | n + 1 => by
    rw [hitsTo_succ, List.length_append]
    have h1 := hitsTo_len os t n
    have h2 := hits_len os t n
    have h3 : (n + 1) * os.length = n * os.length + os.length := Nat.succ_mul _ _
    omega
theorem sortO_len (ps : List (Str × Str)) : (sortO ps).length = ps.length := List.length_mergeSort ..
theorem sortO_mem {ps : List (Str × Str)} {p : Str × Str} : p ∈ sortO ps ↔ p ∈ ps := (List.mergeSort_perm ps leO).mem_iff
theorem imm_dD (p : Nat) (k : Str × Str) : imm (dD p k) = true := rfl
theorem imm_hits (os : List (Str × Str)) (t : Str) (p : Nat) : immAll (hits os t p) = true := immAll_of fun d h => by
  obtain ⟨k, _, rfl⟩ := List.mem_map.mp h
  rfl
theorem imm_hitsTo (os : List (Str × Str)) (t : Str) (n : Nat) : immAll (hitsTo os t n) = true := immAll_of fun d h => by
  obtain ⟨p, _, h2⟩ := List.mem_flatMap.mp h
  exact imm_all (imm_hits os t p) d h2
/-- what sorted asks of the keys -/
theorem oK_alike (p q : Str × Str) : alike (oK p) (oK q) = true := by simp [oK, oT, alike, alikeAll]
theorem fK_alike (p q : Str × Str) : alike (fK p) (fK q) = true := by simp [fK, alike, alikeAll]
theorem oT_alike (p q : Str) : alike (oT p) (oT q) = true := by simp [oT, alike, alikeAll]
end K14

set_option maxHeartbeats 4000000
set_option autoImplicit false
namespace K14
open PySem PySem.Spec PyProof.Rows L2 AsSort AsKit
open Evl (Ex Ev EvT EvA)
section
variable {P : Program} {w : World} {K : PySem.W.Frag} {mg : Str → Option Value} {base : Heap}
abbrev nDeedsOn : List Str := ["kinds", "text", "ordered", "found", "place", "left", "right"]
def pairsOf : PyData → List (Str × Str)
  | .tuple ds => ds.map pairOf
  | _ => []
def dn2 : PyData → PyData → PyData
  | k, .str t => .tuple (deedsL (pairsOf k) t)
  | _, _ => .none
theorem pairs_map (ps : List (Str × Str)) : pairsOf (.tuple (ps.map kD)) = ps := by
  show (ps.map kD).map pairOf = ps
  rw [List.map_map]
  exact (List.map_congr_left fun p _ => pair_kD p).trans (List.map_id' ps)
/-- kinds and a text that deeds_on takes -/
def Kt (k t : PyData) : Prop := ∃ (ps : List (Str × Str)) (z : Str), k = .tuple (ps.map kD) ∧ t = .str z ∧ z.length ≤ 400 ∧ ps.length ≤ 60 ∧ ∀ p ∈ ps, p.1.length ≤ 40 ∧ p.2.length ≤ 40 ∧ PyData.strOk p.1 = true ∧ PyData.strOk p.2 = true
abbrev spDeedsOn (K : PySem.W.Frag) : Sp := spP K (fun ds => ∃ k t, ds = [k, t] ∧ Kt k t) (two dn2)
end
end K14

set_option maxHeartbeats 4000000
set_option autoImplicit false
namespace AsKit
open PySem PySem.Spec PyProof.Rows L2 AsSort
open Evl (Ex Ev EvT EvA)
section
variable {X : Cx}
/-- x in a tuple of data -/
def rInT (K : PySem.W.Frag) : R2 := fun x y H Q => ∃ d ds, Dp K H x d ∧ Dp K H y (.tuple ds) ∧ SeqAt.shaped d = true ∧ PyData.canLayAll0 ds = true ∧ Q (.bl (ds.any fun z => PyData.eqv z d)) H
theorem op_inT (hu : X.A.units + 65 < cLine) : OpR X (compareOp .In) (rInT X.K) := by
  intro pins s σ H x y v u Q I rx ry h
  obtain ⟨d, ds, hd, he, sd, se, q⟩ := h
  obtain ⟨as, r1⟩ := Dp.reads I d x v hd rx
  obtain ⟨bs, r2⟩ := Dp.reads I (.tuple ds) y u he ry
  exact SeqAt.in_tuple_reads r2 r1 se (SeqAt.canLay_of_shaped sd) (room_in_shaped sd hu) ⟨.bl _, H, I, rfl, q⟩
/-- x not in a tuple of data -/
def rNotInT (K : PySem.W.Frag) : R2 := fun x y H Q => ∃ d ds, Dp K H x d ∧ Dp K H y (.tuple ds) ∧ SeqAt.shaped d = true ∧ PyData.canLayAll0 ds = true ∧ Q (.bl (!(ds.any fun z => PyData.eqv z d))) H
theorem op_notInT (hu : X.A.units + 65 < cLine) : OpR X (compareOp .NotIn) (rNotInT X.K) := by
  intro pins s σ H x y v u Q I rx ry h
  obtain ⟨d, ds, hd, he, sd, se, q⟩ := h
  obtain ⟨as, r1⟩ := Dp.reads I d x v hd rx
  obtain ⟨bs, r2⟩ := Dp.reads I (.tuple ds) y u he ry
  exact SeqAt.notIn_tuple_reads r2 r1 se (SeqAt.canLay_of_shaped sd) (room_in_shaped sd hu) ⟨.bl _, H, I, rfl, q⟩
end
section
variable {K : PySem.W.Frag} {σ : L2.St} {H : Hp} {ta tb : TE} {d : PyData} {ds : List PyData}
theorem d_notInT (h : EvD K ta σ H d) (h2 : EvD K tb σ H (.tuple ds)) (sd : SeqAt.shaped d = true) (se : PyData.canLayAll0 ds = true) : EvD K (tOp (rNotInT K) ta tb) σ H (.bool (!(ds.any fun z => PyData.eqv z d))) := fun H1 a Q q =>
  h H1 a _ fun v H2 u hd => h2 H2 (a.trans u) _ fun w H3 y he => ⟨d, ds, dp_ex y hd, he, sd, se, q _ H3 (u.trans y) (.bl _)⟩
theorem d_inT (h : EvD K ta σ H d) (h2 : EvD K tb σ H (.tuple ds)) (sd : SeqAt.shaped d = true) (se : PyData.canLayAll0 ds = true) : EvD K (tOp (rInT K) ta tb) σ H (.bool (ds.any fun z => PyData.eqv z d)) := fun H1 a Q q =>
  h H1 a _ fun v H2 u hd => h2 H2 (a.trans u) _ fun w H3 y he => ⟨d, ds, dp_ex y hd, he, sd, se, q _ H3 (u.trans y) (.bl _)⟩
end
end AsKit
namespace K14
open PySem PySem.Spec PyProof.Rows L2 AsSort AsKit
open Evl (Ex Ev EvT EvA)
section
variable {P : Program} {w : World} {K : PySem.W.Frag} {mg : Str → Option Value} {base : Heap}
abbrev nTextBehind : List Str := ["text", "deed", "place", "left", "right"]
theorem sc_text_behind : FnScope nTextBehind ["text", "deed"] (defScope sTextBehind) := ⟨rfl, rfl, rfl, by decide +kernel, rfl, by decide +kernel, by decide +kernel⟩
def bhS (z : Str) (p : Nat) (k : Str × Str) : Str := (cutS z none (some (p : Int)) ++ k.2) ++ cutS z (some ((p + k.1.length : Nat) : Int)) none
def dOf : PyData → Nat × (Str × Str)
  | .tuple [.int p, .str l, .str r] => (p.toNat, (l, r))
  | _ => (0, ("", ""))
theorem dOf_dD (p : Nat) (k : Str × Str) : dOf (dD p k) = (p, k) := rfl
def bh2 : PyData → PyData → PyData
  | .str z, d => .str (bhS z (dOf d).1 (dOf d).2)
  | _, _ => .none
abbrev spTextBehind (K : PySem.W.Frag) : Sp := spP K (fun ds => ∃ z p k, ds = [.str z, dD p k] ∧ z.length ≤ 40000 ∧ k.1.length ≤ 40 ∧ k.2.length ≤ 40) (two bh2)
theorem c_text_behind (D : Df K mg "text_behind" sTextBehind) (hb : Bl mg) : Cl P w K mg base 1 "text_behind" (spTextBehind K) [] := by
  refine cl_of D sc_text_behind (len_sp fun ds ⟨z, p, k, h, _⟩ => by rw [h]; rfl) (fun _ _ _ _ _ _ us hl => match us, hl with | [_, _], _ => rfl) fun f cdv A outer s H vs Q E hr h => ?_
  obtain ⟨ds, hd, ⟨z, p, k, rfl, hz, hk1, hk2⟩, q⟩ := h
  obtain ⟨v, v2, rfl, h0, h1⟩ := dp2 hd
  refine ⟨_, pss_cons (ps_asg (pv 1) (pg_tup rfl (pgs_cons (pg_name (i := 2) sc_text_behind.nd rfl (.inl rfl)) (pgs_cons (pg_name (i := 3) sc_text_behind.nd rfl (.inl rfl)) (pgs_cons (pg_name (i := 4) sc_text_behind.nd rfl (.inl rfl)) pgs_nil)))))
    (pss_one (ps_ret (pe_op op_add_str (pe_op op_add_str (pe_slice sl_str (pv 0) po_none (po_some (pv 2))) (pv 4)) (pe_slice sl_str (pv 0) (po_some (pe_op op_add (pv 2) (pe_lenS hb (pv 3)))) po_none)))), ?_⟩
  refine ⟨v2, rfl, g_three h1 fun va vb vc ha hb2 hc => ?_⟩
  have c0 : At K ((((start nTextBehind [v, v2]).set 2 (some va)).set 3 (some vb)).set 4 (some vc)) H 0 (.str z) := ⟨_, rfl, h0⟩
  have c2 : At K ((((start nTextBehind [v, v2]).set 2 (some va)).set 3 (some vb)).set 4 (some vc)) H 2 (.int (p : Int)) := ⟨_, rfl, ha⟩
  have c3 : At K ((((start nTextBehind [v, v2]).set 2 (some va)).set 3 (some vb)).set 4 (some vc)) H 3 (.str k.1) := ⟨_, rfl, hb2⟩
  have c4 : At K ((((start nTextBehind [v, v2]).set 2 (some va)).set 3 (some vb)).set 4 (some vc)) H 4 (.str k.2) := ⟨_, rfl, hc⟩
  have l1 := cut_len z none (some (p : Int))
  have l2 := cut_len z (some ((p + k.1.length : Nat) : Int)) none
  refine AsKit.s_ret (K := K) (d_addS (x := cutS z none (some (p : Int)) ++ k.2) (y := cutS z (some ((p + k.1.length : Nat) : Int)) none) (d_addS (d_slS (d_var c0) p_none (p_some (d_var c2)) (by omega)) (d_var c4) (by omega))
    (d_slS (d_var c0) (p_some (d_eqTo (d_arI (g := fun i j => i + j) (d_var c2) (d_lenS (d_var c3) (by omega))) (by rw [Int.natCast_add]))) p_none (by omega)) (by rw [add_len]; omega)) q
abbrev nIsDeed : List Str := ["kinds", "text", "value", "place", "left", "right"]
theorem sc_is_deed_on : FnScope nIsDeed ["kinds", "text", "value"] (defScope sIsDeedOn) := ⟨rfl, rfl, rfl, by decide +kernel, rfl, by decide +kernel, by decide +kernel⟩
def dinD (k : PyData) (t : Str) (d : PyData) : Bool := (deedsL (pairsOf k) t).any fun e => PyData.eqv e d
def deedD (k : PyData) (t : Str) : PyData → Bool
  | .tuple [a, b, c] => isIntD a && dinD k t (.tuple [a, b, c])
  | _ => false
theorem deedD_no {k : PyData} {t : Str} {d : PyData} (h : isD "tuple" d = false) : deedD k t d = false := by
  cases d with
  | tuple z => rw [isD_tup1] at h; cases h
  | _ => rfl
theorem deedD_len {k : PyData} {t : Str} {ds : List PyData} (h : ds.length ≠ 3) : deedD k t (.tuple ds) = false := by
  match ds, h with
  | [], _ => rfl
  | [_], _ => rfl
  | [_, _], _ => rfl
  | [_, _, _], h => exact (h rfl).elim
  | _ :: _ :: _ :: _ :: _, _ => rfl
theorem three_of : ∀ {es : List PyData}, es.length = 3 → ∃ a b c, es = [a, b, c]
  | [a, b, c], _ => ⟨a, b, c, rfl⟩
def ido3 : PyData → PyData → PyData → PyData
  | k, .str t, d => .bool (deedD k t d)
  | _, _, _ => .none
theorem lay_deeds (ps : List (Str × Str)) (t : Str) (hps : ∀ p ∈ ps, PyData.strOk p.1 = true ∧ PyData.strOk p.2 = true) : PyData.canLayAll0 (deedsL ps t) = true := by
  have h : ∀ ds : List PyData, (∀ d ∈ ds, d.canLay0 = true) → PyData.canLayAll0 ds = true := by
    intro ds
    induction ds with
    | nil => intro _; simp [PyData.canLayAll0]
    | cons d ds ih =>
      intro h
      simp [PyData.canLayAll0, h d (List.mem_cons_self ..), ih fun z hz => h z (List.mem_cons_of_mem _ hz)]
  refine h _ fun d hd => ?_
  obtain ⟨p, _, h2⟩ := List.mem_flatMap.mp hd
  obtain ⟨k, hk, rfl⟩ := List.mem_map.mp h2
  have z := hps k (sortO_mem.mp ((List.mem_filter.mp hk).1))
  simp [dD, PyData.canLay0, PyData.canLayAll0, z.1, z.2]
abbrev spIsDeedOn (K : PySem.W.Frag) : Sp := spP K (fun ds => ∃ k t d, ds = [k, t, d] ∧ Kt k t ∧ SeqAt.shaped d = true) (three ido3)
theorem lay_kindsD (ps : List (Str × Str)) (hps : ∀ p ∈ ps, PyData.strOk p.1 = true ∧ PyData.strOk p.2 = true) : PyData.canLayAll0 (ps.map kD) = true := by
  induction ps with
  | nil => simp [PyData.canLayAll0]
  | cons p ps ih =>
    have z := hps p (List.mem_cons_self ..)
    rw [List.map_cons]
    simp [PyData.canLayAll0, ih fun q hq => hps q (List.mem_cons_of_mem _ hq), kD, PyData.canLay0, z.1, z.2]
theorem shaped_tail {a b c : PyData} (h : SeqAt.shaped (.tuple [a, b, c]) = true) : SeqAt.shaped (.tuple [b, c]) = true := by
  have h1 := SeqAt.canLay_of_shaped h
  have h2 := SeqAt.depth_of_shaped h
  unfold SeqAt.shaped
  have e1 : PyData.canLay0 (.tuple [a, b, c]) = (a.canLay0 && PyData.canLay0 (.tuple [b, c])) := by simp [PyData.canLay0, PyData.canLayAll0]
  have e2 : PyData.depth (.tuple [b, c]) ≤ PyData.depth (.tuple [a, b, c]) := by
    simp only [PyData.depth, PyData.depthAll]
    omega
  rw [e1] at h1
  rw [(Bool.and_eq_true_iff.mp h1).2, decide_eq_true (by omega)]
  rfl
theorem eqv_tup (xs ys : List PyData) : PyData.eqv (.tuple xs) (.tuple ys) = PyData.eqvAll xs ys := by rw [PyData.eqv]
theorem eqv_cons (x y : PyData) (xs ys : List PyData) : PyData.eqvAll (x :: xs) (y :: ys) = (PyData.eqv x y && PyData.eqvAll xs ys) := by rw [PyData.eqvAll]
theorem eqv_nil : PyData.eqvAll [] [] = true := by rw [PyData.eqvAll]
theorem eqv_strL {x : Str} {d : PyData} (h : PyData.eqv (.str x) d = true) : d = .str x := by
  cases d with
  | str y =>
    have e : PyData.eqv (.str x) (.str y) = (x == y) := by rw [PyData.eqv]
    rw [e] at h
    rw [eq_of_beq h]
  | _ => rw [PyData.eqv] at h; cases h
theorem eqv_strs (x : Str) : PyData.eqv (.str x) (.str x) = true := by
  have e : PyData.eqv (.str x) (.str x) = (x == x) := by rw [PyData.eqv]
  rw [e]
  exact beq_self_eq_true x
theorem eqv_ints (i j : Int) : PyData.eqv (.int i) (.int j) = (i == j) := by rw [PyData.eqv]
/-- the pair is one of the kinds -/
def memD (ps : List (Str × Str)) (b c : PyData) : Bool := (ps.map kD).any fun z => PyData.eqv z (.tuple [b, c])
theorem memD_pair {ps : List (Str × Str)} {b c : PyData} (h : memD ps b c = true) : ∃ p ∈ ps, b = .str p.1 ∧ c = .str p.2 := by
  obtain ⟨z, hz, e⟩ := List.any_eq_true.mp h
  obtain ⟨p, hp, rfl⟩ := List.mem_map.mp hz
  unfold kD at e
  rw [eqv_tup, eqv_cons, eqv_cons, eqv_nil, Bool.and_true, Bool.and_eq_true] at e
  exact ⟨p, hp, eqv_strL e.1, eqv_strL e.2⟩
theorem memD_iff {ps : List (Str × Str)} {p : Str × Str} : memD ps (.str p.1) (.str p.2) = true ↔ p ∈ ps := by
  constructor
  · intro h
    obtain ⟨q, hq, e1, e2⟩ := memD_pair h
    injection e1 with e1
    injection e2 with e2
    have : q = p := Prod.ext e1.symm e2.symm
    exact this ▸ hq
  · intro h
    refine List.any_eq_true.mpr ⟨kD p, List.mem_map.mpr ⟨p, h, rfl⟩, ?_⟩
    unfold kD
    rw [eqv_tup, eqv_cons, eqv_cons, eqv_nil, eqv_strs, eqv_strs]
    rfl
/-- what the program asks of a triple -/
def tripD (ps : List (Str × Str)) (t : Str) (a b c : PyData) : Bool := match a, b, c with
  | .int p, .str l, .str r => (decide (0 ≤ p) && decide (p ≤ (t.length : Int))) && (memD ps (.str l) (.str r) && hitB t p.toNat (l, r))
  | _, _, _ => false
theorem dinD_trip {ps : List (Str × Str)} {t : Str} {a b c : PyData} : (isIntD a && dinD (.tuple (ps.map kD)) t (.tuple [a, b, c])) = (isIntD a && tripD ps t a b c) := by
  by_cases ha : isIntD a = true
  · obtain ⟨p, rfl⟩ : ∃ p, a = .int p := by
      unfold isIntD at ha
      rw [Bool.and_eq_true] at ha
      have hn : ∀ y ∈ names7, y ≠ "int" → y ≠ "bool" → kitB y "int" = some false := by decide +kernel
      have hbb : isD "bool" (.bool true) = true := by decide +kernel
      cases a with
      | int p => exact ⟨p, rfl⟩
      | bool b => have := ha.2; simp only [isD, tyName] at this hbb; rw [hbb] at this; cases this
      | _ => exact absurd ha.1 (by unfold isD; rw [hn _ (ty7 _) (by show _ ≠ _; simp only [tyName]; decide) (by show _ ≠ _; simp only [tyName]; decide)]; decide)
    rw [ha, Bool.true_and, Bool.true_and]
    unfold dinD
    rw [pairs_map]
    rw [Bool.eq_iff_iff]
    constructor
    · intro h
      obtain ⟨e, he, q⟩ := List.any_eq_true.mp h
      obtain ⟨n, hn, h2⟩ := List.mem_flatMap.mp he
      obtain ⟨k, hk, rfl⟩ := List.mem_map.mp h2
      obtain ⟨k1, k2⟩ := List.mem_filter.mp hk
      have k3 := sortO_mem.mp k1
      have k4 := List.mem_range.mp hn
      unfold dD at q
      rw [eqv_tup, eqv_cons, eqv_cons, eqv_cons, eqv_nil, Bool.and_true, Bool.and_eq_true, Bool.and_eq_true, eqv_ints] at q
      obtain ⟨q1, q2, q3⟩ := q
      have q1 : (n : Int) = p := by simpa using q1
      subst q1
      rw [eqv_strL q2, eqv_strL q3]
      unfold tripD
      simp only [Bool.and_eq_true, decide_eq_true_eq]
      refine ⟨⟨by omega, by omega⟩, memD_iff.mpr k3, ?_⟩
      rw [Int.toNat_natCast]
      exact k2
    · intro h
      unfold tripD at h
      split at h
      · rename_i l r e0
        simp only [Bool.and_eq_true, decide_eq_true_eq] at h
        obtain ⟨⟨h1, h2⟩, h3, h4⟩ := h
        have e0' := e0
        cases e0'
        obtain ⟨n, rfl⟩ := Int.eq_ofNat_of_zero_le h1
        refine List.any_eq_true.mpr ⟨dD n (l, r), List.mem_flatMap.mpr ⟨n, List.mem_range.mpr (by omega), List.mem_map.mpr ⟨(l, r), List.mem_filter.mpr ⟨sortO_mem.mpr (memD_iff (p := (l, r)) |>.mp h3), ?_⟩, rfl⟩⟩, ?_⟩
        · simpa using h4
        · unfold dD
          rw [eqv_tup, eqv_cons, eqv_cons, eqv_cons, eqv_nil, eqv_ints, eqv_strs, eqv_strs]
          simp
      · cases h
  · rw [Bool.not_eq_true] at ha
    rw [ha]
    rfl
theorem isIntD_int {a : PyData} (ha : isIntD a = true) : ∃ p, a = .int p := by
  unfold isIntD at ha
  rw [Bool.and_eq_true] at ha
  have hn : ∀ y ∈ names7, y ≠ "int" → y ≠ "bool" → kitB y "int" = some false := by decide +kernel
  have hbb : isD "bool" (.bool true) = true := by decide +kernel
  cases a with
  | int p => exact ⟨p, rfl⟩
  | bool b => have := ha.2; simp only [isD, tyName] at this hbb; rw [hbb] at this; cases this
  | _ => exact absurd ha.1 (by unfold isD; rw [hn _ (ty7 _) (by show _ ≠ _; simp only [tyName]; decide) (by show _ ≠ _; simp only [tyName]; decide)]; decide)
theorem c_is_deed_on (D : Df K mg "is_deed_on" sIsDeedOn) (hb : Bl mg) (C1 : Cl P w K mg base 1 "is_integer" (spIsInteger K) []) : Cl P w K mg base 6 "is_deed_on" (spIsDeedOn K) [] := by
  refine cl_of D sc_is_deed_on (len_sp fun ds ⟨z, p, k, h, _⟩ => by rw [h]; rfl) (fun _ _ _ _ _ _ us hl => match us, hl with | [_, _, _], _ => rfl) fun f cdv A outer s H vs Q E hr h => ?_
  obtain ⟨ds, hd, ⟨kk, tt, d, rfl, hkt, hsh⟩, q⟩ := h
  obtain ⟨v, v2, v3, rfl, h0, h1, h2⟩ := dp3 hd
  have hu : (A.deeper (envOfC "is_deed_on" (defScope sIsDeedOn) s.heap.objs.size f cdv)).units + 65 < cLine := by have := hr.un; omega
  obtain ⟨ps, t, rfl, rfl, hz, hp, hps⟩ := hkt
  refine ⟨_, pss_cons (ps_if (pw_or (pt_not (pt_val (pe_isi (x := "tuple") (T := "tuple") hb (pv 2)))) (pw_or1 (pt_cmpR op_ne (pe_lenQ hb (pv 2)) pe_int (nomark _)))).pt (pss_one (ps_ret pe_bl)) pss_nil)
    (pss_cons (ps_asg (pv 2) (pg_tup rfl (pgs_cons (pg_name (i := 3) sc_is_deed_on.nd rfl (.inl rfl)) (pgs_cons (pg_name (i := 4) sc_is_deed_on.nd rfl (.inl rfl)) (pgs_cons (pg_name (i := 5) sc_is_deed_on.nd rfl (.inl rfl)) pgs_nil)))))
    (pss_cons (ps_if (pw_or (pt_not (pt_val (C8.pe_c C1 hr (by decide) (by rfl) (pa_cons (pv 3) pa_nil)))) (pw_or (pt_not (pt_chain op_le op_le pe_int (pv 3) (pe_lenS hb (pv 1)))) (pw_or1 (pt_cmpR (op_notInT hu) (pe_tup (pa_cons (pv 4) (pa_cons (pv 5) pa_nil))) (pv 0) rfl)))).pt (pss_one (ps_ret pe_bl)) pss_nil)
    (pss_one (ps_ret (pe_cmpR op_eq (pe_slice sl_str (pv 1) (po_some (pv 3)) (po_some (pe_op op_add (pv 3) (pe_lenS hb (pv 4))))) (pv 4) (nomark _)))))), ?_⟩
  have a2 : At K (start nIsDeed [v, v2, v3]) H 2 d := ⟨_, rfl, h2⟩
  by_cases hs : isD "tuple" d = true
  · obtain ⟨es, rfl⟩ := isD_tup hs
    refine Evl.q_when (b := !(isD "tuple" (.tuple es)) || !decide ((es.length : Int) = 3)) (Evl.et_or (Evl.et_not (t_ofB (d_isD (d_var a2)))) fun _ => t_ofD (d_neI (d_lenT (d_var a2)) d_int)) (fun hb1 H1 e1 => AsKit.s_ret (K := K) d_bl fun u H2 e2 hu => q u H2 (e1.trans e2) ?_) fun hb1 H1 e1 => ?_
    · rw [hs, Bool.not_true, Bool.false_or] at hb1
      have hl : es.length ≠ 3 := fun z => by rw [z] at hb1; cases hb1
      show Dp K H2 u (.bool (deedD _ t (.tuple es)))
      rw [deedD_len hl]
      exact hu
    · rw [hs, Bool.not_true, Bool.false_or] at hb1
      have hl : es.length = 3 := by
        have z := of_decide_eq_true (by simpa using hb1 : decide ((es.length : Int) = 3) = true)
        omega
      obtain ⟨a, b, c, rfl⟩ := three_of hl
      refine ⟨v3, rfl, g_three (dp_ex e1 h2) fun va vb vc ha hb2 hc => ?_⟩
      dsimp only
      have c0 : At K ((((start nIsDeed [v, v2, v3]).set 3 (some va)).set 4 (some vb)).set 5 (some vc)) H1 0 (.tuple (ps.map kD)) := ⟨_, rfl, dp_ex e1 h0⟩
      have c1 : At K ((((start nIsDeed [v, v2, v3]).set 3 (some va)).set 4 (some vb)).set 5 (some vc)) H1 1 (.str t) := ⟨_, rfl, dp_ex e1 h1⟩
      have c3 : At K ((((start nIsDeed [v, v2, v3]).set 3 (some va)).set 4 (some vb)).set 5 (some vc)) H1 3 a := ⟨_, rfl, ha⟩
      have c4 : At K ((((start nIsDeed [v, v2, v3]).set 3 (some va)).set 4 (some vb)).set 5 (some vc)) H1 4 b := ⟨_, rfl, hb2⟩
      have c5 : At K ((((start nIsDeed [v, v2, v3]).set 3 (some va)).set 4 (some vb)).set 5 (some vc)) H1 5 c := ⟨_, rfl, hc⟩
      have fin : ∀ (H3 : Hp) (u : V) (bb : Bool), Ex H1 H3 → bb = (isIntD a && tripD ps t a b c) → Dp K H3 u (.bool bb) → Q u H3 := fun H3 u bb e3 eb hu => by
        refine q u H3 (e1.trans e3) ?_
        show Dp K H3 u (.bool (isIntD a && dinD (.tuple (ps.map kD)) t (.tuple [a, b, c])))
        rw [dinD_trip, ← eb]
        exact hu
      have lk := lay_kindsD ps fun p hp1 => (hps p hp1).2.2
      by_cases ia : isIntD a = true
      · obtain ⟨p, rfl⟩ := isIntD_int ia
        refine Evl.q_when (b := !(isIntD (.int p)) || (!(decide (0 ≤ p) && decide (p ≤ (t.length : Int))) || !(memD ps b c))) (Evl.et_or (Evl.et_not (t_ofB (d_call (ds_cons (d_var c3) ds_nil) rfl))) fun _ => Evl.et_or (Evl.et_not (t_ofD (d_chI (g1 := fun i j => decide (i ≤ j)) (g2 := fun i j => decide (i ≤ j)) d_int (d_var c3) fun _ => d_lenS (d_var c1) (by omega)))) fun _ => t_ofD (d_notInT (d_tup (ds_cons (d_var c4) (ds_cons (d_var c5) ds_nil)) (by show 2 ≤ 100000; decide)) (d_var c0) (shaped_tail hsh) lk)) (fun hb3 H2 e2 => AsKit.s_ret (K := K) d_bl fun u H3 e3 hu => fin H3 u _ (e2.trans e3) ?_ hu) fun hb3 H2 e2 => ?_
        · rw [ia, Bool.not_true, Bool.false_or, Bool.true_and] at *
          symm
          unfold tripD
          split
          · rename_i l r e0
            cases e0
            rw [← Bool.not_and, Bool.not_eq_true'] at hb3
            rw [← Bool.and_assoc, hb3, Bool.false_and]
          · rfl
        · rw [ia, Bool.not_true, Bool.false_or] at hb3
          have z : (decide (0 ≤ p) && decide (p ≤ (t.length : Int))) = true ∧ memD ps b c = true := by simpa using hb3
          obtain ⟨pr, hpr, rfl, rfl⟩ := memD_pair z.2
          obtain ⟨z1, z2⟩ := Bool.and_eq_true_iff.mp z.1
          obtain ⟨n, rfl⟩ := Int.eq_ofNat_of_zero_le (of_decide_eq_true z1)
          have hl1 := (hps pr hpr).1
          refine AsKit.s_ret (K := K) (d_eqS (d_slS (d_var (c1.mono e2)) (p_some (d_var (c3.mono e2))) (p_some (d_eqTo (d_arI (g := fun i j => i + j) (d_var (c3.mono e2)) (d_lenS (d_var (c4.mono e2)) (by omega))) (show PyData.int ((n : Int) + (pr.1.length : Int)) = .int ((n + pr.1.length : Nat) : Int) by rw [Int.natCast_add]))) (by omega)) (d_var (c4.mono e2))) fun u H3 e3 hu => fin H3 u _ (e2.trans e3) ?_ hu
          rw [ia, Bool.true_and]
          show _ = ((decide (0 ≤ (n : Int)) && decide ((n : Int) ≤ (t.length : Int))) && (memD ps (.str pr.1) (.str pr.2) && hitB t (n : Int).toNat (pr.1, pr.2)))
          rw [z.1, z.2, Bool.true_and, Bool.true_and, Int.toNat_natCast]
          exact hit_cut t n pr
      · rw [Bool.not_eq_true] at ia
        refine Evl.q_when (b := !(isIntD a) || false) (Evl.et_or (Evl.et_not (t_ofB (d_call (ds_cons (d_var c3) ds_nil) rfl))) fun h => by rw [ia] at h; cases h) (fun hb3 H2 e2 => AsKit.s_ret (K := K) d_bl fun u H3 e3 hu => fin H3 u _ (e2.trans e3) (by rw [ia]; rfl) hu) fun hb3 => by rw [ia] at hb3; cases hb3
  · have hs : isD "tuple" d = false := by simpa using hs
    refine Evl.q_when (b := !(isD "tuple" d) || false) (Evl.et_or (Evl.et_not (t_ofB (d_isD (d_var a2)))) fun h => by rw [hs] at h; cases h) (fun hb1 H1 e1 => AsKit.s_ret (K := K) d_bl fun u H2 e2 hu => q u H2 (e1.trans e2) ?_) fun hb1 => by rw [hs] at hb1; cases hb1
    show Dp K H2 u (.bool (deedD _ t d))
    rw [deedD_no hs]
    exact hu
theorem strOk_in {y z : Str} (h : PyData.strOk y = true) (h2 : allIn y z = true) : PyData.strOk z = true := by
  unfold PyData.strOk at h ⊢
  unfold allIn at h2
  rw [← Array.all_toList] at h ⊢
  refine List.all_eq_true.mpr fun c hc => ?_
  have hm : c ∈ y.cps.toList := of_decide_eq_true (List.all_eq_true.mp h2 c hc)
  exact List.all_eq_true.mp h c hm
theorem okay_kt {l k t : PyData} (h : Okay l k t) : Kt k t := by
  obtain ⟨y, z, ps, rfl, rfl, rfl, o0, o1, o2, o3, o4, o5, o6, o7⟩ := h
  refine ⟨ps, z, rfl, rfl, by omega, by omega, fun p hp => ?_⟩
  obtain ⟨a, b, c, d, e⟩ := o7 p hp
  exact ⟨by omega, by omega, strOk_in o0 c, strOk_in o0 d⟩
def ds3 : PyData → PyData → PyData → PyData
  | _, k, t => dn2 k t
abbrev spDeeds (K : PySem.W.Frag) : Sp := spP K (fun ds => ∃ l k t, ds = [l, k, t] ∧ Okay l k t) (three ds3)
abbrev nDone : List Str := ["letters", "kinds", "text", "deed", "behind"]
def do4 : PyData → PyData → PyData → PyData → PyData
  | _, _, t, d => bh2 t d
/-- a deed that can be done -/
def Deed (k t d : PyData) : Prop := ∃ (ps : List (Str × Str)) (z : Str) (p : Nat) (kk : Str × Str), k = .tuple (ps.map kD) ∧ t = .str z ∧ d = dD p kk ∧ dD p kk ∈ deedsL ps z ∧ kk ∈ ps ∧ (bhS z p kk).length ≤ 40
abbrev spDone (K : PySem.W.Frag) : Sp := spP K (fun ds => ∃ l k t d, ds = [l, k, t, d] ∧ Okay l k t ∧ Deed k t d) (four do4)
end
end K14

set_option maxHeartbeats 4000000
set_option autoImplicit false
/-! dicts whose values are all True: made by a comprehension or key by key; their keys as data. -/
namespace AsKit
open PySem PySem.Spec PyProof.Rows L2 AsSort
open Evl (Ex Ev EvT EvA)
section
variable {X : Cx}
theorem sw_dict {kx vx : Expr} {gs : List Comprehension} {scope : Scope} {pos py : Pos} {y : Str} {l : Nat} {env : Env} (hk : env.scope.kind = .function) (hy : env.scope.names.lookup y = some .local) (hl : (py.line == pos.line) = true)
    (ha : (scope.names.any fun (n, k) => n == y && (k == .local || k == .cell)) = false) : swapsWith (.DictComp kx vx gs scope pos) (some (.Name y py)) l env = pure true := by
  have k1 : env.kindOf y = some .local := hy
  have k2 : env.blockKind = .function := by simp only [Env.blockKind, hk]; rfl
  simp only [swapsWith, k2, k1, ha, Expr.pos, hl]; rfl
theorem ps_setDc {i : Nat} {y : Str} {py : Pos} {kx vx tg iter : Expr} {ifs : List Expr} {scope : Scope} {own : List (Str × Nat)} {pos spos : Pos} {wi : TI} {g : TG} {tt : TT} {tk tv : TE} (hc : X.calm = true) (hN : X.N.Nodup) (hy : X.N[i]? = some y) (hyl : X.env.scope.names.lookup y = some .local)
    (hsw : swapsWith (.DictComp kx vx [⟨tg, iter, ifs, 0⟩] scope pos) (some (.Name y py)) spos.line X.env = pure true) (hi : PI X tg iter wi) (ok : BlkOk X.N X.env.scope scope own)
    (hg : ∀ (s : Shared) (H : Hp) (C : Addr) (cl : List (Str × Addr)) (fp : List Addr), PG (X.blk s H scope (compEnvC scope cl C X.env) fp) tg g) (ht : ∀ (s : Shared) (H : Hp) (C : Addr) (cl : List (Str × Addr)) (fp : List Addr), PTs (X.blk s H scope (compEnvC scope cl C X.env) fp) ifs tt)
    (hk : ∀ (s : Shared) (H : Hp) (C : Addr) (cl : List (Str × Addr)) (fp : List Addr), PE (X.blk s H scope (compEnvC scope cl C X.env) fp) kx tk)
    (he : ∀ (s : Shared) (H : Hp) (C : Addr) (cl : List (Str × Addr)) (fp : List Addr), PE (X.blk s H scope (compEnvC scope cl C X.env) fp) vx tv) (hs : ∀ x, foldedSetIterable iter X.env x = pure x := by intro _; rfl) :
    PS X (.Assign [.Name y py] (.DictComp kx vx [⟨tg, iter, ifs, 0⟩] scope pos) spos) (tAsg (tDc wi g tt tk tv (own.map (·.2))) (gName i)) := by
  refine ⟨fun pins s σ H D I hw => ?_⟩
  rw [exec_Assign_Name_used _ _ _ _ hsw]
  apply wpAny_bind; apply wpAny_standAt; apply wpAny_bind
  show wpAny _ X.A (do let _ ← comprehension (.DictComp kx vx [⟨tg, iter, ifs, 0⟩] scope pos) scope X.env (firstIterPos [⟨tg, iter, ifs, 0⟩] pos) newDict false (eval iter X.env) (some (assign (.Name y py) X.env))) _ _ s
  have hw : tDc wi g tt tk tv (own.map (·.2)) σ H (fun x H1 => gName i x σ H1 D.nx) := hw
  refine wpAny_bind (thn (dc_core (Qf := fun _ s' => SP X pins D .next s') hc hN I hi ok hg ht hk he hs hw fun L C s' m H' J q hn f => ?_) fun _ s' hq => wpAny_pure (wpAny_pure hq))
  show wpAny _ _ (assign (.Name y py) X.env (.ref L)) _ _ _
  refine wpAny_assign_Name (store_ok2 (v := V.ref L) J hN hy (.inl hyl) rfl (fun s2 J2 ⟨a, sb, ha⟩ => ?_) (.inr hyl))
  obtain ⟨f0, f1, f2, f3, f4, f5⟩ := f
  have ne : C ≠ a := ha.elim (fun z => by rw [z]; exact f1) fun z e => f4 y a z e.symm
  exact ⟨m, hn.sameBut sb ne, fun h3 sb3 => ⟨_, H', J2.turned (t' := s2.toks) (fun b o hb e => (sb3.2 b hb).trans e) f0 f1 f3 f4 f5, q⟩⟩
end
abbrev Kvs := List (Key × V)
def putT (kvs : Kvs) (s : Str) : Kvs := putK kvs (.inr s) (.bl true)
def putsT (ss : List Str) : Kvs := ss.foldl putT []
theorem putsT_snoc (ss : List Str) (s : Str) : putsT (ss ++ [s]) = putT (putsT ss) s := by
  unfold putsT
  rw [List.foldl_append]
  rfl
theorem putT_len (kvs : Kvs) (s : Str) : (putT kvs s).length ≤ kvs.length + 1 := length_putK kvs _ _
theorem putT_mem {kvs : Kvs} {s : Str} {kv : Key × V} (h : kv ∈ putT kvs s) : kv.1 = .inr s ∨ ∃ kw ∈ kvs, kw.1 = kv.1 := by
  unfold putT putK at h
  split at h
  · obtain ⟨kw, h1, h2⟩ := List.mem_map.mp h
    split at h2
    · rw [← h2]
      exact .inr ⟨kw, h1, rfl⟩
    · rw [← h2]
      exact .inr ⟨kw, h1, rfl⟩
  · rcases List.mem_append.mp h with h | h
    · exact .inr ⟨kv, h, rfl⟩
    · rw [List.mem_singleton.mp h]
      exact .inl rfl
/-- all keys are texts of ss -/
def KeysIn (ss : List Str) (kvs : Kvs) : Prop := ∀ kv ∈ kvs, ∃ s ∈ ss, kv.1 = .inr s
theorem fold_in (ss : List Str) : ∀ (ts : List Str) (kvs : Kvs), (∀ t ∈ ts, t ∈ ss) → KeysIn ss kvs → KeysIn ss (ts.foldl putT kvs)
  | [], _, _, h => h
  | t :: ts, kvs, ht, h => fold_in ss ts (putT kvs t) (fun u hu => ht u (List.mem_cons_of_mem _ hu)) fun kv hkv => by
    rcases putT_mem hkv with e | ⟨kw, h1, h2⟩
    · exact ⟨t, ht t (List.mem_cons_self ..), e⟩
    · obtain ⟨s, hs, e⟩ := h kw h1
      exact ⟨s, hs, h2 ▸ e⟩
theorem putsT_in (ss : List Str) : KeysIn ss (putsT ss) := fold_in ss ss [] (fun _ h => h) fun _ h => nomatch h
theorem fold_len : ∀ (ts : List Str) (kvs : Kvs), (ts.foldl putT kvs).length ≤ kvs.length + ts.length
  | [], _ => Nat.le_refl _
  | t :: ts, kvs => by
    have h1 := fold_len ts (putT kvs t)
    have h2 := putT_len kvs t
    show (ts.foldl putT (putT kvs t)).length ≤ kvs.length + (ts.length + 1)
    omega
theorem putsT_len (ss : List Str) : (putsT ss).length ≤ ss.length := by
  exact Nat.le_trans (fold_len ss []) (Nat.le_of_eq (Nat.zero_add _))
def keyS : Key → Str
  | .inr s => s
  | .inl _ => ""
def strsOf (kvs : Kvs) : List Str := kvs.map fun kv => keyS kv.1
theorem keyS_of {ss : List Str} {kvs : Kvs} (h : KeysIn ss kvs) {kv : Key × V} (hkv : kv ∈ kvs) : kV kv.1 = .str (keyS kv.1) ∧ keyS kv.1 ∈ ss := by
  obtain ⟨s, hs, e⟩ := h kv hkv
  rw [e]
  exact ⟨rfl, hs⟩
theorem strs_in {ss : List Str} {kvs : Kvs} (h : KeysIn ss kvs) : ∀ s ∈ strsOf kvs, s ∈ ss := fun s hs => by
  obtain ⟨kv, h1, rfl⟩ := List.mem_map.mp hs
  exact (keyS_of h h1).2
theorem keysV {ss : List Str} {kvs : Kvs} (h : KeysIn ss kvs) : (kvs.map fun kv => kV kv.1) = (strsOf kvs).map V.str := by
  unfold strsOf
  rw [List.map_map]
  exact List.map_congr_left fun kv hkv => (keyS_of h hkv).1
theorem dp_strs {K : PySem.W.Frag} {H : Hp} : ∀ ss : List Str, DpAll K H (ss.map V.str) (ss.map PyData.str)
  | [] => .nil
  | s :: ss => .cons (.str s) (dp_strs ss)
theorem lc_keys {d : Addr} {o : Obj} {kvs : Kvs} {g : TG} {tt : TT} {te : TE} {vs : List Nat} {σ : L2.St} {H1 : Hp} {D : Addr} {Qd : Hp → Prop} (Pv : Nat → Hp → Prop) (h0 : Pv 0 (upd H1 D (.lst []))) (hl : ∀ i H, Pv i H → H d = some (.frz o (.dK kvs)))
    (hs : ∀ i k v H, kvs[i]? = some (k, v) → Pv i H → g (kV k) (wipe σ vs) H fun σ2 H2 => wipe σ2 vs = wipe σ vs ∧ tt σ2 H2 fun b H3 =>
      if b = true then te σ2 H3 fun y H4 => ∃ acc, H4 D = some (.lst acc) ∧ acc.length < sizeLine ∧ Pv (i + 1) (upd H4 D (.lst (acc ++ [y]))) else Pv (i + 1) H3) (hd : ∀ H, Pv kvs.length H → Qd H) :
    ∃ W : Nat → Nat → Hp → Prop, (∃ m, W 0 m (upd H1 D (.lst []))) ∧ ∀ i m H, W i m H →
      ((Itk d o kvs).stop i H ∧ Qd H) ∨ ((Itk d o kvs).go i H ∧ ∃ Nx : Hp → Prop, (∀ H', Nx H' → ∃ m', m' < m ∧ W (i + 1) m' H') ∧ ∀ x H', (Itk d o kvs).yld i H x H' → g x (wipe σ vs) H' fun σ2 H2 => wipe σ2 vs = wipe σ vs ∧ tt σ2 H2 fun b H3 =>
        if b = true then te σ2 H3 fun y H4 => ∃ acc, H4 D = some (.lst acc) ∧ acc.length < sizeLine ∧ Nx (upd H4 D (.lst (acc ++ [y]))) else Nx H3) := by
  refine ⟨fun i m H => m = kvs.length - i ∧ i ≤ kvs.length ∧ Pv i H, ⟨kvs.length, by simp, Nat.zero_le _, h0⟩, ?_⟩
  rintro i m H ⟨rfl, hi, p⟩
  have q := hl i H p
  by_cases hlt : i < kvs.length
  · refine .inr ⟨⟨q, hlt⟩, Pv (i + 1), fun H' p' => ⟨kvs.length - (i + 1), by omega, rfl, hlt, p'⟩, fun x H' z => ?_⟩
    obtain ⟨e, k, v, hc, rfl⟩ := z
    subst e
    exact hs i k v _ hc p
  · have e : i = kvs.length := by omega
    subst e
    exact .inl ⟨⟨q, Nat.le_refl _⟩, hd H p⟩
section
variable {K : PySem.W.Frag} {σ : L2.St} {H : Hp} {te tl tk : TE}
/-- [e for x in d], d a dict of texts -/
theorem d_lcK {i j : Nat} {d : Addr} {kvs : Kvs} {ss : List Str} (g : Str → PyData) (hσ : σ[i]? = some (some (.ref d))) (hd : H d = some (.dK kvs)) (hk : KeysIn ss kvs) (hz : kvs.length ≤ 50000) (hw : ∀ x, wipe ((wipe σ [j]).set j (some x)) [j] = wipe σ [j]) (him : ∀ s ∈ ss, imm (g s) = true)
    (ht : ∀ s ∈ ss, ∀ H1, EvD K te ((wipe σ [j]).set j (some (.str s))) H1 (g s)) : EvD K (tLockE (tLc (iKeys (tVar i)) (gName j) tYes te [j])) σ H (.list ((strsOf kvs).map g)) := fun H1 a Q q => by
  have hd1 : H1 d = some (.dK kvs) := a _ _ hd
  refine ⟨d, .dK kvs, hd1, True.intro, fun od => ?_⟩
  obtain ⟨G, eG⟩ : ∃ G, G = upd H1 d (.frz od (.dK kvs)) := ⟨_, rfl⟩
  have gd : G d = some (.frz od (.dK kvs)) := by rw [eG, upd_same]
  rw [← eG]
  refine ⟨_, hσ, d, od, rfl, .inl ⟨kvs, gd, fun D hD => ?_⟩⟩
  have hDd : D ≠ d := fun e => by rw [e, gd] at hD; cases hD
  let ds : List PyData := (strsOf kvs).map PyData.str
  let g' : PyData → PyData := fun x => match x with | .str s => g s | _ => .none
  have hl : ds.length = kvs.length := by show ((strsOf kvs).map PyData.str).length = _; unfold strsOf; rw [List.length_map, List.length_map]
  have him' : ∀ x ∈ ds, (fun _ => true) x = true → imm (g' x) = true := fun x hx _ => by
    obtain ⟨s, hs, rfl⟩ := List.mem_map.mp hx
    exact him s (strs_in hk s hs)
  refine lc_keys (Cd K G ds (fun _ => true) g' D) (cd_start hD) (fun i H' p => p.2.1 _ _ gd) (fun i k v H' hi p => ?_) fun H' p => ?_
  · have hm : (k, v) ∈ kvs := List.mem_of_getElem? hi
    have hks := keyS_of hk hm
    have hks1 : kV k = .str (keyS k) := hks.1
    have hds : ds[i]? = some (.str (keyS k)) := by show ((strsOf kvs).map PyData.str)[i]? = _; unfold strsOf; rw [List.getElem?_map, List.getElem?_map, hi]; rfl
    rw [hks1]
    exact ⟨hw _, cd_turn him' p hds (by omega) (fun H3 _ Q q => q H3 (Ex.refl H3)) fun _ => ht _ hks.2 _⟩
  · have z := cd_end2 hl p
    obtain ⟨z1, z2⟩ := z
    have e : (ds.filter fun _ => true).map g' = (strsOf kvs).map g := by
      rw [List.filter_eq_self.mpr fun _ _ => rfl]
      show ((strsOf kvs).map PyData.str).map g' = _
      rw [List.map_map]
      rfl
    rw [e] at z2
    obtain ⟨p1, p2, acc, p3, p4⟩ := p
    have p5 : DpAll K H' acc ((strsOf kvs).map g) := by
      rw [← e]
      rw [List.take_of_length_le (by omega)] at p4
      exact p4
    refine ⟨z1 _ _ gd, q _ _ (fun b o hb => ?_) (.lst (Evl.sq_of ((upd_ne hDd).trans p3)) (dpAll_tu (tu_rd fun b xs h => ?_) (immAll_of fun x hx => ?_) p5))⟩
    · by_cases hbd : b = d
      · rw [hbd, upd_same]
        rw [hbd, hd1] at hb
        exact hb
      · rw [upd_ne hbd]
        exact z1 b o (by rw [eG, upd_ne hbd]; exact hb)
    · have hbd : b ≠ d := fun w => by
        rw [w] at h
        have y := z1 _ _ gd
        rcases h with h | ⟨o, h⟩
        · rw [y] at h; cases h
        · rw [y] at h; cases h
      rcases h with h | ⟨o, h⟩
      · exact .inl ((upd_ne hbd).trans h)
      · exact .inr ⟨o, (upd_ne hbd).trans h⟩
    · obtain ⟨s, hs, rfl⟩ := List.mem_map.mp hx
      exact him s (strs_in hk s hs)
/-- list(d) -/
theorem d_listD {d : Addr} {kvs : Kvs} {ss : List Str} {i : Nat} (hσ : σ[i]? = some (some (.ref d))) (hd : H d = some (.dK kvs)) (hk : KeysIn ss kvs) : EvD K (tCB rListD (tCons (tVar i) tNil)) σ H (.list ((strsOf kvs).map PyData.str)) := fun H1 a Q q =>
  ⟨_, hσ, d, kvs, rfl, a _ _ hd, fun p hp => q _ _ (Ex.new hp) (.lst (Evl.sq_of upd_same) (by rw [keysV hk]; exact dp_strs _))⟩
/-- {e: True for x in t} -/
theorem e_dcT {j : Nat} {ds : List PyData} (g : PyData → Str) (h : EvD K tl σ H (.tuple ds)) (hz : ds.length ≤ 50000) (hw : ∀ x, wipe ((wipe σ [j]).set j (some x)) [j] = wipe σ [j])
    (ht : ∀ d ∈ ds, ∀ x H1, Ex H H1 → Dp K H1 x d → EvD K tk ((wipe σ [j]).set j (some x)) H1 (.str (g d))) (H1 : Hp) (a : Ex H H1) (Q : VK) (q : ∀ p H2, H1 p = none → Ex H1 H2 → H2 p = some (.dK (putsT (ds.map g))) → Q (.ref p) H2) :
    tDc (iTup K tl) (gName j) tYes tk (tC (.bl true)) [j] σ H1 Q := h H1 a _ fun v H2 x hd => by
  cases hd with
  | tup hs hx =>
    refine ⟨_, rfl, ⟨_, hs⟩, fun D hD => dc_tup (fun i H' => Ex H2 H' ∧ H' D = some (.dK (putsT ((ds.take i).map g)))) ⟨Ex.new hD, upd_same⟩ (fun i H' _ p => Evl.ex_t p.1 hs) (fun i y H' hi p => ?_) fun H' p => ?_⟩
    · have hi2 : i < ds.length := by rw [← dpAll_len hx]; exact (List.getElem?_eq_some_iff.mp hi).1
      have hd : ds[i]? = some ds[i] := List.getElem?_eq_getElem hi2
      refine ⟨hw y, ?_⟩
      show tk _ H' fun y H4 => _
      refine ht ds[i] (List.getElem_mem hi2) y H' (a.trans (x.trans p.1)) (dp_ex p.1 (dpAll_get hx hi hd)) H' (Ex.refl H') _ fun u H4 e4 hu => ?_
      cases hu
      have hp4 := e4 _ _ p.2
      have hl : (putsT ((ds.take i).map g)).length ≤ 50000 := by
        have h1 := putsT_len ((ds.take i).map g)
        have h2 := List.length_take_le' i ds
        rw [List.length_map] at h1
        omega
      refine ⟨_, .inr (g ds[i]), rfl, hp4, Evl.sz_lt (by omega), Ex.mut (p.1.trans e4) hD, ?_⟩
      rw [upd_same, List.take_add_one, hd]
      show _ = some (HO.dK (putsT ((ds.take i ++ [ds[i]]).map g)))
      rw [List.map_append, List.map_singleton, putsT_snoc]
      rfl
    · rw [dpAll_len hx, List.take_length] at p
      exact q D H' (Evl.fresh_back x hD) (x.trans p.1) p.2
theorem q_dcT {D : Ends} {tz : TS} {i j : Nat} {vs : List Nat} {ds : List PyData} (g : PyData → Str) (hvs : vs = [j]) (h : EvD K tl σ H (.tuple ds)) (hz : ds.length ≤ 50000) (hw : ∀ x, wipe ((wipe σ [j]).set j (some x)) [j] = wipe σ [j])
    (ht : ∀ d ∈ ds, ∀ x H1, Ex H H1 → Dp K H1 x d → EvD K tk ((wipe σ [j]).set j (some x)) H1 (.str (g d))) (q : ∀ p H2, H p = none → Ex H H2 → H2 p = some (.dK (putsT (ds.map g))) → tz D (σ.set i (some (.ref p))) H2) :
    tSeq (tAsg (tDc (iTup K tl) (gName j) tYes tk (tC (.bl true)) vs) (gName i)) tz D σ H := by
  subst hvs
  exact e_dcT g h hz hw ht H (Ex.refl H) (fun x H1 => gName i x σ H1 fun σ2 H2 => tz D σ2 H2) q
end
end AsKit

set_option maxHeartbeats 4000000
set_option autoImplicit false
namespace AsKit
open PySem PySem.Spec PyProof.Rows L2 AsSort
open Evl (Ex Ev EvT EvA)
section
variable {K : PySem.W.Frag} {σ : L2.St} {H : Hp} {te : TE} {ds : List PyData}
/-- sorted(xs, key=f) -/
theorem d_sortL {f : Addr} {pre : List PyData → Prop} {g : List PyData → PyData} (h : EvD K te σ H (.list ds)) (hp : ∀ d ∈ ds, pre [d]) (ha : PySem.W.AllAlike (ds.map fun d => g [d])) (hs : PySem.W.Sortable (ds.map fun d => g [d])) (hi : immAll (ds.map fun d => g [d]) = true) (hd : ∀ d ∈ ds, (g [d]).depth ≤ 50) :
    EvD K (tCKw (rSortKey K f pre g) (tCons te tNil) (tCons (tC (.ref f)) tNil)) σ H (.list (sortD (fun d => g [d]) ds)) := fun H1 a Q q =>
  h H1 a _ fun v H2 x hv => by
    cases hv with
    | lst hq hx => exact ⟨_, _, ds, rfl, rfl, .inl hq, hx, hp, ha, hs, hi, hd, fun p ys G np e hG hys => q _ G (x.trans e) (.lst (Evl.sq_of hG) hys)⟩
end
end AsKit
namespace K14
open PySem PySem.Spec PyProof.Rows L2 AsSort AsKit
open Evl (Ex Ev EvT EvA)
section
variable {P : Program} {w : World} {K : PySem.W.Frag} {mg : Str → Option Value} {base : Heap}
abbrev nCopies : List Str := ["letters", "kinds", "text", "behind", "deed", "copy"]
/-- the texts behind all deeds -/
def behinds (ps : List (Str × Str)) (z : Str) : List Str := (deedsL ps z).map fun d => bhS z (dOf d).1 (dOf d).2
def copiesL (ps : List (Str × Str)) (z : Str) : List PyData := sortD (fun d => one ordT [d]) ((strsOf (putsT (behinds ps z))).map PyData.str)
def cp3 : PyData → PyData → PyData → PyData
  | _, k, .str z => .tuple (copiesL (pairsOf k) z)
  | _, _, _ => .none
theorem deeds_mem {ps : List (Str × Str)} {z : Str} {d : PyData} (h : d ∈ deedsL ps z) : ∃ p kk, d = dD p kk ∧ kk ∈ ps ∧ p ≤ z.length := by
  obtain ⟨p, h1, h2⟩ := List.mem_flatMap.mp h
  obtain ⟨k, hk, rfl⟩ := List.mem_map.mp h2
  exact ⟨p, k, rfl, sortO_mem.mp (List.mem_filter.mp hk).1, Nat.lt_succ_iff.mp (List.mem_range.mp h1)⟩
theorem deedsL_len {ps : List (Str × Str)} {z : Str} (h1 : z.length ≤ 400) (h2 : ps.length ≤ 60) : (deedsL ps z).length ≤ 30000 := by
  have l1 := hitsTo_len (sortO ps) z (z.length + 1)
  have l2 := sortO_len ps
  have l3 : (z.length + 1) * (sortO ps).length ≤ 401 * 60 := Nat.mul_le_mul (by omega) (by omega)
  unfold deedsL
  omega
/-- sorted texts: what is asked -/
theorem ordT_ok (ss : List Str) (h : ∀ s ∈ ss, s.length ≤ 40000) : (∀ d ∈ ss.map PyData.str, ∃ z, [d] = [PyData.str z] ∧ z.length ≤ 40000) ∧ PySem.W.AllAlike ((ss.map PyData.str).map fun d => one ordT [d]) ∧ PySem.W.Sortable ((ss.map PyData.str).map fun d => one ordT [d]) ∧
    immAll ((ss.map PyData.str).map fun d => one ordT [d]) = true ∧ ∀ d ∈ ss.map PyData.str, (one ordT [d]).depth ≤ 50 := by
  have hm : ∀ d ∈ (ss.map PyData.str).map fun d => one ordT [d], ∃ s, d = oT s := fun d hd => by
    obtain ⟨x, hx, rfl⟩ := List.mem_map.mp hd
    obtain ⟨s, hs, rfl⟩ := List.mem_map.mp hx
    exact ⟨s, rfl⟩
  refine ⟨fun d hd => ?_, fun d hd d' hd' => ?_, .inl fun d hd => ?_, immAll_of fun d hd => ?_, fun d hd => ?_⟩
  · obtain ⟨s, hs, rfl⟩ := List.mem_map.mp hd
    exact ⟨s, rfl, h s hs⟩
  · obtain ⟨x, rfl⟩ := hm d hd
    obtain ⟨y, rfl⟩ := hm d' hd'
    exact oT_alike x y
  · obtain ⟨x, rfl⟩ := hm d hd
    exact ⟨_, _, rfl⟩
  · obtain ⟨x, rfl⟩ := hm d hd
    rfl
  · obtain ⟨s, hs, rfl⟩ := List.mem_map.mp hd
    show (oT s).depth ≤ 50
    simp [oT, PyData.depth, PyData.depthAll]
abbrev spCopies (K : PySem.W.Frag) : Sp := spP K (fun ds => ∃ l k t, ds = [l, k, t] ∧ Okay l k t ∧ ∃ ps z, k = .tuple (ps.map kD) ∧ t = .str z ∧ ∀ s ∈ behinds ps z, s.length ≤ 40) (three cp3)
end
end K14

set_option maxHeartbeats 4000000
set_option autoImplicit false
namespace K14
open PySem PySem.Spec PyProof.Rows L2 AsSort AsKit
open Evl (Ex Ev EvT EvA)
abbrev sTaken : Stmt := top 91
abbrev sPick : Stmt := top 92
abbrev sLetters : Stmt := top 93
abbrev sText : Stmt := top 94
abbrev sKinds : Stmt := top 95
abbrev sLaw : Stmt := top 98
section
variable {P : Program} {w : World} {K : PySem.W.Frag} {mg : Str → Option Value} {base : Heap}
/-- all but r is as it was -/
def Bt (r : Addr) (H H' : Hp) : Prop := ∀ x o, x ≠ r → H x = some o → H' x = some o
theorem Bt.refl (r : Addr) (H : Hp) : Bt r H H := fun _ _ _ h => h
theorem Bt.trans {r : Addr} {H H1 H2 : Hp} (a : Bt r H H1) (b : Bt r H1 H2) : Bt r H H2 := fun x o n h => b x o n (a x o n h)
theorem bt_ex {r : Addr} {H H1 : Hp} (e : Ex H H1) : Bt r H H1 := fun x o _ h => e x o h
theorem bt_upd {r : Addr} {H : Hp} {o : HO} : Bt r H (upd H r o) := fun x u n h => (upd_ne n).trans h
/-- the row of the law: the script, how far, the drawn number, what is left of a great one -/
def SqS (K : PySem.W.Frag) (H : Hp) (r scr : Addr) (xs : List V) : Prop := ∀ H', Bt r H H' → SqL K H' scr xs
def RowS (K : PySem.W.Frag) (H : Hp) (r : Addr) (scr : Addr) (ns : List Int) (a b c : Int) : Prop := H r = some (.lst [.ref scr, .int a, .int b, .int c]) ∧ True ∧ SqS K H r scr (ns.map V.int) ∧ 0 ≤ a ∧ 0 ≤ b ∧ b < 2147483647
def Row (K : PySem.W.Frag) (S : Addr × List Int) (H : Hp) (r : Addr) : Prop := ∃ a b c, RowS K H r S.1 S.2 a b c
theorem seq_bt {r x : Addr} {H H1 : Hp} {xs : List V} (h : Bt r H H1) (n : x ≠ r) (s : SqL K H x xs) : SqL K H1 x xs := by
  rcases s with (s | ⟨o, s⟩) | s
  · exact .inl (.inl (h x _ n s))
  · exact .inl (.inr ⟨o, h x _ n s⟩)
  · exact .inr s
theorem RowS.ex {H H1 : Hp} {r scr : Addr} {ns : List Int} {a b c : Int} (e : Ex H H1) (h : RowS K H r scr ns a b c) : RowS K H1 r scr ns a b c := ⟨e _ _ h.1, h.2.1, fun H' b => h.2.2.1 H' ((bt_ex e).trans b), h.2.2.2⟩
theorem RowS.put {H : Hp} {r scr : Addr} {ns : List Int} {a b c a' b' c' : Int} (h : RowS K H r scr ns a b c) (h1 : 0 ≤ a') (h2 : 0 ≤ b') (h3 : b' < 2147483647) : RowS K (upd H r (.lst [.ref scr, .int a', .int b', .int c'])) r scr ns a' b' c' :=
  ⟨upd_same, h.2.1, fun H' b => h.2.2.1 H' (bt_upd.trans b), h1, h2, h3⟩
theorem RowS.dp {H : Hp} {r scr : Addr} {ns : List Int} {a b c : Int} (h : RowS K H r scr ns a b c) : Dp K H (.ref r) (.list [.list (ns.map PyData.int), .int a, .int b, .int c]) :=
  .lst (Evl.sq_of h.1) (.cons (.lst (h.2.2.1 H (Bt.refl r H)) (dp_ints ns)) (.cons (.int a) (.cons (.int b) (.cons (.int c) .nil))))
theorem Row.ex {S : Addr × List Int} {H H1 : Hp} {r : Addr} (e : Ex H H1) (h : Row K S H r) : Row K S H1 r := let ⟨a, b, c, z⟩ := h; ⟨a, b, c, z.ex e⟩
theorem row_new {S : Addr × List Int} {H : Hp} {r p : Addr} {o : HO} (h : Row K S H r) (np : H p = none) : p ≠ r ∧ Row K S (upd H p o) r ∧ Bt r H (upd H p o) := by
  obtain ⟨a, b, c, z⟩ := h
  have n : p ≠ r := fun e => by rw [e, z.1] at np; cases np
  exact ⟨n, ⟨a, b, c, z.ex (Ex.new np)⟩, bt_ex (Ex.new np)⟩
/-- an object that was not there ahead may change -/
theorem row_keep {S : Addr × List Int} {H1 H2 : Hp} {r D : Addr} {o : HO} (h1 : Row K S H1 r) (hD : H1 D = none) (b : Bt r H1 H2) (h2 : Row K S H2 r) : Row K S (upd H2 D o) r ∧ Bt r H1 (upd H2 D o) := by
  obtain ⟨x, y, z, k1⟩ := h1
  obtain ⟨a, b', c, k2⟩ := h2
  have n : r ≠ D := fun e => by rw [← e, k1.1] at hD; cases hD
  have hb : Bt r H1 (upd H2 D o) := fun w u nw hw => by
    rw [upd_ne fun e => by rw [e, hD] at hw; cases hw]
    exact b w u nw hw
  exact ⟨⟨a, b', c, (upd_ne n).trans k2.1, k2.2.1, fun H' b' => k1.2.2.1 H' (hb.trans b'), k2.2.2.2⟩, hb⟩
abbrev nTaken : List Str := ["row", "many", "found", "cell"]
theorem sc_taken : FnScope nTaken ["row", "many"] (defScope sTaken) := ⟨rfl, rfl, rfl, by decide +kernel, rfl, by decide +kernel, by decide +kernel⟩
def spTaken (K : PySem.W.Frag) : Sp := fun vs H Q _ => ∃ (r : Addr) (S : Addr × List Int) (many : Int), vs = [.ref r, .int many] ∧ Row K S H r ∧ 0 < many ∧ many < 1000000 ∧ ∀ (k : Nat) H', (k : Int) < many → Bt r H H' → Row K S H' r → Q (.int (k : Int)) H'
theorem c_taken (D : Df K mg "_law_taken" sTaken) (hb : Bl mg) : Cl P w K mg base 1 "_law_taken" (spTaken K) [] := by
  refine cl_of D sc_taken (fun vs H Q E ⟨r, S, m, h, _⟩ => by rw [h]; rfl) (fun _ _ _ _ _ _ us hl => match us, hl with | [_, _], _ => rfl) fun f cdv A outer s H vs Q E hr h => ?_
  obtain ⟨r, ⟨scr, ns⟩, many, rfl, ⟨a, b, c, hR⟩, hm, hm2, q⟩ := h
  refine ⟨_, pss_cons (ps_if (pt_cmpR op_gt (pe_ix ix_list (pv 0) pe_int (fun _ _ => rfl)) pe_int (nomark _))
      (pss_cons (ps_set (i := 2) sc_taken.nd rfl (.inl rfl) (pe_op op_mod (pe_int1 hb (pe_ix ix_list (pv 0) pe_int (fun _ _ => rfl))) (pv 1)))
      (pss_cons (ps_asg (pe_op op_fdiv (pe_ix ix_list (pv 0) pe_int (fun _ _ => rfl)) (pv 1)) (pg_sub (pv 0) pe_int set_list)) (pss_one (ps_ret (pv 2))))) pss_nil)
    (pss_cons (ps_asg (pe_op op_add (pe_ix ix_list (pv 0) pe_int (fun _ _ => rfl)) pe_int) (pg_sub (pv 0) pe_int set_list))
    (pss_cons (ps_if (pt_cmpR op_gt (pe_ix ix_list (pv 0) pe_int (fun _ _ => rfl)) (pe_lenQ hb (pe_ix ix_list (pv 0) pe_int (fun _ _ => rfl))) (nomark _))
      (pss_cons (ps_asg (pe_op op_mod (pe_int1 hb (pe_op op_add (pe_op op_mul (pe_ix ix_list (pv 0) pe_int (fun _ _ => rfl)) pe_int) pe_int)) pe_int) (pg_sub (pv 0) pe_int set_list))
      (pss_one (ps_ret (pe_op op_mod (pe_int1 hb (pe_op op_fdiv (pe_ix ix_list (pv 0) pe_int (fun _ _ => rfl)) pe_int)) (pv 1))))) pss_nil)
    (pss_cons (ps_set (i := 3) sc_taken.nd rfl (.inl rfl) (pe_ix ix_list (pe_ix ix_list (pv 0) pe_int (fun _ _ => rfl)) (pe_op op_sub (pe_ix ix_list (pv 0) pe_int (fun _ _ => rfl)) pe_int) (fun _ _ => rfl)))
    (pss_cons (ps_asg (pe_op op_mod (pe_int1 hb (pe_op op_add (pe_op op_add (pe_op op_mul (pe_ix ix_list (pv 0) pe_int (fun _ _ => rfl)) pe_int) (pv 3)) pe_int)) pe_int) (pg_sub (pv 0) pe_int set_list))
    (pss_cons (ps_if (pt_cmpR op_ge (pv 3) (pe_op op_pow pe_int pe_int) (nomark _)) (pss_one (ps_asg (pe_op op_fdiv (pv 3) (pv 1)) (pg_sub (pv 0) pe_int set_list))) pss_nil)
    (pss_one (ps_ret (pe_op op_mod (pe_int1 hb (pv 3)) (pv 1))))))))), ?_⟩
  -- what the slots hold
  have a0 : ∀ {x2 x3 : Option V} {G : Hp} {a b c : Int}, RowS K G r scr ns a b c → At K [some (.ref r), some (.int many), x2, x3] G 0 (.list [.list (ns.map PyData.int), .int a, .int b, .int c]) := fun h => ⟨_, rfl, h.dp⟩
  have a1 : ∀ {x2 x3 : Option V} {G : Hp}, At K [some (.ref r), some (.int many), x2, x3] G 1 (.int many) := ⟨_, rfl, .int _⟩
  have ix : ∀ {x2 x3 : Option V} {G : Hp} {a b c : Int} (j : Nat) (d : PyData), RowS K G r scr ns a b c → [PyData.list (ns.map PyData.int), .int a, .int b, .int c][j]? = some d → EvD K (tOp (rIxL K) (tVar 0) (tC (.int (j : Int)))) [some (.ref r), some (.int many), x2, x3] G d := fun j d h e => d_ixL (d_var (a0 h)) d_int (atI_nat e)
  have fin : ∀ (i : Int) (G : Hp), Bt r H G → Row K (scr, ns) G r → Q (.int (i % many)) G := fun i G h1 h2 => by
    have z1 := Int.emod_nonneg i (show many ≠ 0 by omega)
    have z2 := Int.emod_lt_of_pos i hm
    have z := q (i % many).toNat G (by omega) h1 h2
    rw [show (((i % many).toNat : Nat) : Int) = i % many by omega] at z
    exact z
  refine Evl.q_when (b := decide ((0 : Int) < c)) (t_ofD (d_cmpI (g := fun i j => decide (j < i)) (ix 3 _ hR rfl) d_int)) (fun hc H1 e1 => ?_) fun hc H1 e1 => ?_
  · refine AsKit.q_asg (K := K) (d_opC (C := fun _ j => 0 < j) (g := fun i j => i % j) (d_int1 (ix 3 _ (hR.ex e1) rfl)) (d_var a1) hm) fun v2 H2 e2 hv => ?_
    have hR2 := (hR.ex e1).ex e2
    refine q_setI (K := K) (j := 3) rfl hR2.1 (d_opC (C := CDiv) (g := fun i j => i / j) (ix 3 _ hR2 rfl) (d_var a1) ⟨hm, by omega⟩) d_int (by show 3 < 4; decide) fun H3 e3 => ?_
    cases hv
    have hR3 := hR2.ex e3
    refine AsKit.s_ret (K := K) (d_var ⟨_, rfl, .int _⟩) fun u H4 e4 hu => ?_
    cases hu
    exact fin c H4 ((bt_ex (e1.trans (e2.trans e3))).trans (bt_upd.trans (bt_ex e4))) ⟨a, b, _, (hR3.put (c' := c / many) hR.2.2.2.1 hR.2.2.2.2.1 hR.2.2.2.2.2).ex e4⟩
  · have hR1 := hR.ex e1
    refine q_setI (K := K) (j := 1) rfl hR1.1 (d_arI (g := fun i j => i + j) (ix 1 _ hR1 rfl) d_int) d_int (by show 1 < 4; decide) fun H2 e2 => ?_
    have hR2 := (hR1.ex e2).put (a' := a + 1) (b' := b) (c' := c) (by have := hR.2.2.2.1; omega) hR.2.2.2.2.1 hR.2.2.2.2.2
    have b2 : Bt r H (upd H2 r (.lst [.ref scr, .int (a + 1), .int b, .int c])) := (bt_ex (e1.trans e2)).trans bt_upd
    have hb1 := hR.2.2.2.2.1
    have hb2 := hR.2.2.2.2.2
    have ha1 := hR.2.2.2.1
    obtain ⟨G, eG⟩ : ∃ G, G = upd H2 r (.lst [.ref scr, .int (a + 1), .int b, .int c]) := ⟨_, rfl⟩
    show tSeq (tIfS _ _ tNext) _ _ [some (.ref r), some (.int many), none, none] (upd H2 r (.lst [.ref scr, .int (a + 1), .int b, .int c]))
    rw [← eG] at hR2 b2 ⊢
    have len : ∀ {x2 x3 : Option V} {G : Hp} {a b c : Int}, RowS K G r scr ns a b c → EvD K (tCB (rLenQ K) (tCons (tOp (rIxL K) (tVar 0) (tC (.int 0))) tNil)) [some (.ref r), some (.int many), x2, x3] G (.int (ns.length : Int)) := fun h => d_eqTo (d_lenL (ix 0 _ h rfl)) (by rw [List.length_map])
    refine Evl.q_when (b := decide ((ns.length : Int) < a + 1)) (t_ofD (d_cmpI (g := fun i j => decide (j < i)) (ix 1 _ hR2 rfl) (len hR2))) (fun hc H3 e3 => ?_) fun hc H3 e3 => ?_
    · have hR3 := hR2.ex e3
      refine q_setI (K := K) (j := 2) rfl hR3.1 (d_opC (C := fun _ j => 0 < j) (g := fun i j => i % j) (d_int1 (d_arI (g := fun i j => i + j) (d_opC (C := CMul) (g := fun i j => i * j) (ix 2 _ hR3 rfl) d_int (.inl ⟨by omega, by omega⟩)) d_int)) d_int (by decide)) d_int (by show 2 < 4; decide) fun H4 e4 => ?_
      have hR4 := (hR3.ex e4).put (a' := a + 1) (b' := (b * 48271 + 11) % 2147483647) (c' := c) (by omega) (Int.emod_nonneg _ (by decide)) (Int.emod_lt_of_pos _ (by decide))
      refine AsKit.s_ret (K := K) (d_opC (C := fun _ j => 0 < j) (g := fun i j => i % j) (d_int1 (d_opC (C := CDiv) (g := fun i j => i / j) (ix 2 _ hR4 rfl) d_int ⟨by decide, by decide⟩)) (d_var a1) hm) fun u H5 e5 hu => ?_
      cases hu
      exact fin _ H5 (b2.trans ((bt_ex (e3.trans e4)).trans (bt_upd.trans (bt_ex e5)))) ⟨_, _, _, hR4.ex e5⟩
    · have hlt : a.toNat < ns.length := by have := of_decide_eq_false hc; omega
      have hR3 := hR2.ex e3
      have hcell : ns[a.toNat]? = some ns[a.toNat] := List.getElem?_eq_getElem hlt
      refine AsKit.q_asg (K := K) (d := .int ns[a.toNat]) (d_ixL (ds := ns.map PyData.int) (i := (a + 1) - 1) (ix 0 _ hR3 rfl) (d_arI (g := fun i j => i - j) (ix 1 _ hR3 rfl) d_int) ?_) fun v3 H4 e4 hv => ?_
      · rw [show a + 1 - 1 = ((a.toNat : Nat) : Int) by omega]
        exact atI_nat (by rw [List.getElem?_map, hcell]; rfl)
      cases hv
      have hR4 := hR3.ex e4
      have a3 : ∀ {G : Hp}, At K [some (.ref r), some (.int many), none, some (.int ns[a.toNat])] G 3 (.int ns[a.toNat]) := ⟨_, rfl, .int _⟩
      refine q_setI (K := K) (j := 2) rfl hR4.1 (d_opC (C := fun _ j => 0 < j) (g := fun i j => i % j) (d_int1 (d_arI (g := fun i j => i + j) (d_arI (g := fun i j => i + j) (d_opC (C := CMul) (g := fun i j => i * j) (ix 2 _ hR4 rfl) d_int (.inl ⟨by omega, by omega⟩)) (d_var a3)) d_int)) d_int (by decide)) d_int (by show 2 < 4; decide) fun H5 e5 => ?_
      have hR5 := (hR4.ex e5).put (a' := a + 1) (b' := (b * 48271 + ns[a.toNat] + 11) % 2147483647) (c' := c) (by omega) (Int.emod_nonneg _ (by decide)) (Int.emod_lt_of_pos _ (by decide))
      have b5 : Bt r H (upd H5 r (.lst [.ref scr, .int (a + 1), .int ((b * 48271 + ns[a.toNat] + 11) % 2147483647), .int c])) := b2.trans ((bt_ex (e3.trans (e4.trans e5))).trans bt_upd)
      have last : ∀ G, Bt r H G → Row K (scr, ns) G r → tRet (tOp (rI (fun _ j => 0 < j) fun i j => .int (i % j)) (tCB rInt1 (tCons (tVar 3) tNil)) (tVar 1)) { nx := fun _ H' => Q .non H', rt := Q } [some (.ref r), some (.int many), none, some (.int ns[a.toNat])] G := fun G h1 ⟨x, y, z, h2⟩ =>
        AsKit.s_ret (K := K) (d_opC (C := fun _ j => 0 < j) (g := fun i j => i % j) (d_int1 (d_var a3)) (d_var a1) hm) fun u H6 e6 hu => by
          cases hu
          exact fin _ H6 (h1.trans (bt_ex e6)) ⟨x, y, z, h2.ex e6⟩
      refine Evl.q_when (b := decide ((10 : Int) ^ (18 : Int).toNat ≤ ns[a.toNat])) (t_ofD (K := K) (d_cmpI (g := fun i j => decide (j ≤ i)) (d_var a3) (d_opC (C := CPow) (g := fun i j => i ^ j.toNat) d_int d_int ?_))) (fun hc H6 e6 => ?_) fun hc H6 e6 => ?_
      · exact ⟨by decide, by decide, by decide⟩
      · have hR6 := hR5.ex e6
        refine s_setI (K := K) (j := 3) rfl hR6.1 (d_opC (C := CDiv) (g := fun i j => i / j) (d_var a3) (d_var a1) ⟨hm, by omega⟩) d_int (by show 3 < 4; decide) fun H7 e7 => ?_
        exact last _ (b5.trans ((bt_ex (e6.trans e7)).trans bt_upd)) ⟨_, _, _, (hR6.ex e7).put (a' := a + 1) (b' := (b * 48271 + ns[a.toNat] + 11) % 2147483647) (c' := ns[a.toNat] / many) (by omega) (Int.emod_nonneg _ (by decide)) (Int.emod_lt_of_pos _ (by decide))⟩
      · exact last H6 (b5.trans (bt_ex e6)) ⟨_, _, _, hR5.ex e6⟩
end
end K14

set_option maxHeartbeats 4000000
set_option autoImplicit false
namespace AsKit
open PySem PySem.Spec PyProof.Rows L2 AsSort
open Evl (Ex Ev EvT EvA)
/-- the text of these signs -/
def ones (cs : List Nat) : List Str := cs.map fun c => (⟨#[c]⟩ : Str)
theorem joinL_ones : ∀ cs : List Nat, TL.joinL [] (cs.map fun c => [c]) = cs
  | [] => rfl
  | [c] => rfl
  | c :: d :: r => by
    show [c] ++ ([] ++ TL.joinL [] ([d] :: r.map fun c => [c])) = _
    rw [show ([d] :: r.map fun c => [c]) = (d :: r).map fun c => [c] from rfl, joinL_ones (d :: r)]
    rfl
theorem joined1 (cs : List Nat) : (Txt.join "" (ones cs)).cps.toList = cs := by
  show TL.tl (Txt.join "" (ones cs)) = cs
  unfold Txt.join
  rw [StrLaws.glued_eq_join, TL.tl_join]
  have e1 : TL.tl ("" : Str) = [] := by decide +kernel
  have e2 : (ones cs).map TL.tl = cs.map fun c => [c] := by
    unfold ones
    rw [List.map_map]
    rfl
  rw [e1, e2]
  exact joinL_ones cs
section
variable {X : Cx}
/-- list(s), s a text -/
def rListS1 : List V → Hp → VK → Prop := fun xs H Q => ∃ z, xs = [.str z] ∧ z.length ≤ sizeLine ∧ ∀ p, H p = none → Q (.ref p) (upd H p (.lst (z.cps.toList.map fun c => V.str ⟨#[c]⟩)))
theorem call_listS1 (hc : X.calm = true) : CallR X (.type "list") rListS1 := by
  intro pins s σ H xs us Q I r h
  obtain ⟨z, rfl, hz, q⟩ := h
  obtain ⟨u, rfl, rx⟩ := vals1 r
  obtain ⟨t, rfl⟩ := rx
  have hl : z.cps.toList.length = z.cps.size := Array.length_toList
  refine call_list_str (I.ok.hd hc) z t (hn := hz) fun h' tk acc c hk hS hacc => ?_
  refine ⟨.ref s.heap.objs.size, _, I.laid (t' := tk) hk (Nat.le_refl _) (show ObjOk X.prog X.w _ h' _ (.lst (z.cps.toList.map fun c => V.str ⟨#[c]⟩)) from ⟨by rw [List.length_map, hl]; exact hz, acc.toList, c, ?_, ?_⟩), rfl, q _ (I.hok.fresh (Nat.le_refl _))⟩
  · have el : acc.toList.length = acc.size := Array.length_toList
    refine vals_of_at (by rw [List.length_map, el, hacc.1, hl]) fun j x w h1 h2 => ?_
    obtain ⟨d, u, hd, rfl⟩ := hacc.2 j w (by rw [← Array.getElem?_toList]; exact h2)
    rw [List.getElem?_map, Array.getElem?_toList, hd] at h1
    cases h1
    exact ⟨u, rfl⟩
  · rw [Array.toArray_toList]
    exact hS
end
end AsKit
namespace K14
open PySem PySem.Spec PyProof.Rows L2 AsSort AsKit
open Evl (Ex Ev EvT EvA)
section
variable {P : Program} {w : World} {K : PySem.W.Frag} {mg : Str → Option Value} {base : Heap}
theorem sc_pick : FnScope ["row", "things"] ["row", "things"] (defScope sPick) := ⟨rfl, rfl, rfl, by decide +kernel, rfl, by decide +kernel, by decide +kernel⟩
def spPick (K : PySem.W.Frag) : Sp := fun vs H Q _ => ∃ (r : Addr) (S : Addr × List Int) (t : Addr) (xs : List V), vs = [.ref r, .ref t] ∧ Row K S H r ∧ t ≠ r ∧ SqL K H t xs ∧ xs ≠ [] ∧ xs.length < 1000000 ∧ ∀ x H', x ∈ xs → Bt r H H' → Row K S H' r → Q x H'
theorem c_pick (D : Df K mg "_law_pick" sPick) (hb : Bl mg) (C1 : Cl P w K mg base 1 "_law_taken" (spTaken K) []) : Cl P w K mg base 2 "_law_pick" (spPick K) [] := by
  refine cl_of D sc_pick (fun vs H Q E ⟨r, S, t, xs, h, _⟩ => by rw [h]; rfl) (fun _ _ _ _ _ _ us hl => match us, hl with | [_, _], _ => rfl) fun f cdv A outer s H vs Q E hr h => ?_
  obtain ⟨r, S, t, xs, rfl, hR, ht, hs, hn, hz, q⟩ := h
  refine ⟨_, pss_one (ps_ret (pe_ix ix_list (pv 1) (C8.pe_c C1 hr (by decide) (by rfl) (pa_cons (pv 0) (pa_cons (pe_lenQ hb (pv 1)) pa_nil))) (fun _ _ => rfl))), ?_⟩
  have hp : 0 < xs.length := List.length_pos_iff.mpr hn
  refine ⟨.ref t, rfl, .ref r, rfl, .ref t, rfl, t, xs, rfl, .inl hs, r, S, (xs.length : Int), rfl, hR, by omega, by omega, fun k H' hk hb2 hR2 => ?_⟩
  have hk2 : k < xs.length := by omega
  exact ⟨t, xs, (k : Int), xs[k], rfl, rfl, seq_bt hb2 ht hs, atI_nat (List.getElem?_eq_getElem hk2), q _ H' (List.getElem_mem hk2) hb2 hR2⟩
theorem sc_letters : FnScope ["row"] ["row"] (defScope sLetters) := ⟨rfl, rfl, rfl, by decide +kernel, rfl, by decide +kernel, by decide +kernel⟩
def seven : List Str := ["a", "ab", "ab", "ab", "bz", "abc", "cdx"]
def spLetters (K : PySem.W.Frag) : Sp := fun vs H Q _ => ∃ (r : Addr) (S : Addr × List Int), vs = [.ref r] ∧ Row K S H r ∧ ∀ z H', z ∈ seven → Bt r H H' → Row K S H' r → Q (.str z) H'
theorem c_letters (D : Df K mg "_law_letters" sLetters) (C1 : Cl P w K mg base 2 "_law_pick" (spPick K) []) : Cl P w K mg base 3 "_law_letters" (spLetters K) [] := by
  refine cl_of D sc_letters (fun vs H Q E ⟨r, S, h, _⟩ => by rw [h]; rfl) (fun _ _ _ _ _ _ us hl => match us, hl with | [_], _ => rfl) fun f cdv A outer s H vs Q E hr h => ?_
  obtain ⟨r, S, rfl, hR, q⟩ := h
  refine ⟨_, pss_one (ps_ret (C8.pe_c C1 hr (by decide) (by rfl) (pa_cons (pv 0) (pa_cons (pe_lst (pa_cons pe_str (pa_cons pe_str (pa_cons pe_str (pa_cons pe_str (pa_cons pe_str (pa_cons pe_str (pa_cons pe_str pa_nil)))))))) pa_nil)))), ?_⟩
  refine ⟨.ref r, rfl, by show 7 ≤ sizeLine; decide, fun p np => ?_⟩
  have z := row_new (o := .lst (seven.map V.str)) hR np
  refine ⟨r, S, p, seven.map V.str, rfl, z.2.1, z.1, Evl.sq_of upd_same, by decide, by decide, fun x H' hx hb hR' => ?_⟩
  obtain ⟨y, hy, rfl⟩ := List.mem_map.mp hx
  exact q y H' hy (z.2.2.trans hb) hR'
abbrev nText : List Str := ["row", "letters", "most", "turn"]
theorem sc_text : FnScope nText ["row", "letters", "most"] (defScope sText) := ⟨rfl, rfl, rfl, by decide +kernel, rfl, by decide +kernel, by decide +kernel⟩
def spText (K : PySem.W.Frag) : Sp := fun vs H Q _ => ∃ (r : Addr) (S : Addr × List Int) (y : Str) (m : Nat), vs = [.ref r, .str y, .int (m : Int)] ∧ Row K S H r ∧ 0 < y.length ∧ y.length ≤ 1000 ∧ m ≤ 1000 ∧ ∀ (z : Str) H', z.length ≤ m → allIn y z = true → Bt r H H' → Row K S H' r → Q (.str z) H'
theorem c_text (D : Df K mg "_law_text" sText) (hb : Bl mg) (C1 : Cl P w K mg base 1 "_law_taken" (spTaken K) []) (C2 : Cl P w K mg base 2 "_law_pick" (spPick K) []) : Cl P w K mg base 3 "_law_text" (spText K) [] := by
  refine cl_of D sc_text (fun vs H Q E ⟨r, S, y, m, h, _⟩ => by rw [h]; rfl) (fun _ _ _ _ _ _ us hl => match us, hl with | [_, _, _], _ => rfl) fun f cdv A outer s H vs Q E hr h => ?_
  obtain ⟨r, S, y, m, rfl, hR, hy, hy2, hm, q⟩ := h
  refine ⟨_, pss_one (ps_ret (pe_join pe_str (pe_lcn 3 sc_text.nd (pi_range1 (by rfl) (hb _ (by decide +kernel)) (pa_cons (C8.pe_c C1 hr (by decide) (by rfl) (pa_cons (pv 0) (pa_cons (pe_op op_add (pv 2) pe_int) pa_nil))) pa_nil)) (fun _ _ _ _ _ => pts_nil)
    (fun _ _ _ _ _ => C8.pe_c C2 hr (by decide) (by rfl) (pa_cons (pv 0) (pa_cons (pe_callTy (call_listS1 rfl) (by rfl) (hb _ (by decide +kernel)) (by decide +kernel) (pa_cons (pv 1) pa_nil)) pa_nil))) (fun _ _ _ _ _ => pg_name sc_text.nd rfl (.inl rfl)) (blkOk_by (N := nText) (sc := defScope sText) (own := [("turn", 3)]) (by decide +kernel)) rfl))), ?_⟩
  refine ⟨⟨_, rfl⟩, .ref r, rfl, .int (m : Int), rfl, _, _, rfl, rfl, r, S, (m : Int) + 1, rfl, hR, by omega, by omega, fun k H1 hk hb1 hR1 => ?_⟩
  refine ⟨(k : Int), rfl, by omega, by omega, fun D hD => ?_⟩
  have nD := row_new (o := .lst []) hR1 hD
  have hyl : y.cps.toList.length = y.length := Array.length_toList
  refine lc_range (lo := 0) (n := ((k : Int)).toNat) (fun i H' => Bt r H1 H' ∧ Row K S H' r ∧ ∃ cs : List Nat, H' D = some (.lst ((ones cs).map V.str)) ∧ cs.length = i ∧ ∀ c ∈ cs, c ∈ y.cps.toList) ⟨nD.2.2, nD.2.1, [], upd_same, rfl, fun _ h => nomatch h⟩ (fun i H' hi p => ?_) fun H' p => ?_
  · obtain ⟨p1, p2, cs, p3, p4, p5⟩ := p
    refine ⟨rfl, ?_⟩
    refine ⟨.ref r, rfl, .str y, rfl, y, rfl, Evl.sz_of (by omega), fun t nt => ?_⟩
    have nT := row_new (o := .lst (y.cps.toList.map fun c => V.str ⟨#[c]⟩)) p2 nt
    refine ⟨r, S, t, _, rfl, nT.2.1, nT.1, Evl.sq_of upd_same, ?_, by rw [List.length_map]; omega, fun x H2 hx hb2 hR2 => ?_⟩
    · intro e
      have := congrArg List.length e
      rw [List.length_map, List.length_nil] at this
      omega
    · obtain ⟨c, hc, rfl⟩ := List.mem_map.mp hx
      have tD : D ≠ t := fun e => by rw [e, nt] at p3; cases p3
      have h3 : H2 D = some (.lst ((ones cs).map V.str)) := hb2 D _ nD.1 ((upd_ne tD).trans p3)
      have bb : Bt r H1 H2 := p1.trans (nT.2.2.trans hb2)
      have kk := row_keep (o := .lst ((ones cs).map V.str ++ [.str ⟨#[c]⟩])) hR1 hD bb hR2
      refine ⟨_, h3, Evl.sz_lt (by unfold ones; rw [List.length_map, List.length_map, p4]; omega), kk.2, kk.1, cs ++ [c], ?_, by rw [List.length_append, p4]; rfl, fun d hd => ?_⟩
      · rw [upd_same]
        unfold ones
        rw [List.map_append, List.map_append]
        rfl
      · rcases List.mem_append.mp hd with hd | hd
        · exact p5 d hd
        · rw [List.mem_singleton.mp hd]
          exact hc
  · obtain ⟨p1, p2, cs, p3, p4, p5⟩ := p
    have hj := joined1 cs
    have hl : (Txt.join "" (ones cs)).length = cs.length := by
      have e := congrArg List.length hj
      rw [Array.length_toList] at e
      exact e
    refine ⟨_, D, ones cs, rfl, rfl, .inl (Evl.sq_of p3), ?_, q _ H' (by rw [hl]; omega) ?_ (hb1.trans p1) p2⟩
    · have e1 : (ones cs).map (·.length) = cs.map fun _ => 1 := by
        unfold ones
        rw [List.map_map]
        rfl
      have e2 : ∀ l : List Nat, (l.map fun _ => 1).sum = l.length := fun l => by
        induction l with
        | nil => rfl
        | cons x l ih => rw [List.map_cons, List.sum_cons, ih, List.length_cons]; omega
      rw [e1, e2]
      have e3 : (ones cs).length = cs.length := List.length_map ..
      have e4 : (("" : Str)).length = 0 := by decide +kernel
      rw [e3, e4]
      omega
    · unfold allIn
      rw [hj]
      exact List.all_eq_true.mpr fun c hc => decide_eq_true (p5 c hc)
end
end K14

set_option maxHeartbeats 4000000
set_option autoImplicit false
namespace K14
open PySem PySem.Spec PyProof.Rows L2 AsSort AsKit
open Evl (Ex Ev EvT EvA)
section
variable {P : Program} {w : World} {K : PySem.W.Frag} {mg : Str → Option Value} {base : Heap}
theorem tu_bt {S : Addr × List Int} {H H' : Hp} {r : Addr} (h : Row K S H r) (b : Bt r H H') : Tu K H H' := tu_rd fun a xs q => by
  obtain ⟨x, y, z, h1⟩ := h
  have n : ∀ u, H a = some u → (∀ zs, u ≠ .lst zs) → a ≠ r := fun u e n w => by
    rw [w, h1.1] at e
    exact n _ (Option.some.inj e).symm
  rcases q with q | ⟨o, q⟩
  · exact .inl (b a _ (n _ q fun _ z => nomatch z) q)
  · exact .inr ⟨o, b a _ (n _ q fun _ z => nomatch z) q⟩
/-- a kind that the law draws -/
def Gd (y : Str) (p : Str × Str) : Prop := p.1.length ≤ 3 ∧ p.2.length ≤ 1 ∧ allIn y p.1 = true ∧ allIn y p.2 = true ∧ p.1 ≠ p.2
theorem lay_kinds {y : Str} (hy : PyData.strOk y = true) : ∀ ps : List (Str × Str), (∀ p ∈ ps, allIn y p.1 = true ∧ allIn y p.2 = true) → PyData.canLayAll0 (ps.map kD) = true ∧ PyData.depthAll (ps.map kD) ≤ 2
  | [], _ => by simp [PyData.canLayAll0, PyData.depthAll]
  | p :: ps, h => by
    have z := lay_kinds hy ps fun q hq => h q (List.mem_cons_of_mem _ hq)
    have z1 := h p (List.mem_cons_self ..)
    refine ⟨by simp [kD, PyData.canLay0, PyData.canLayAll0, strOk_in hy z1.1, strOk_in hy z1.2, z.1], ?_⟩
    have e : PyData.depthAll ((p :: ps).map kD) = max (kD p).depth (PyData.depthAll (ps.map kD)) := by simp [PyData.depthAll]
    have e2 : (kD p).depth ≤ 2 := by simp [kD, PyData.depth, PyData.depthAll]
    rw [e]
    have := z.2
    omega
theorem shaped_kinds {y : Str} (hy : PyData.strOk y = true) {ps : List (Str × Str)} (h : ∀ p ∈ ps, allIn y p.1 = true ∧ allIn y p.2 = true) : SeqAt.shaped (.list (ps.map kD)) = true := by
  have z := lay_kinds hy ps h
  unfold SeqAt.shaped
  have e : (PyData.list (ps.map kD)).depth = PyData.depthAll (ps.map kD) + 1 := by simp [PyData.depth, Nat.add_comm]
  rw [e, decide_eq_true (by have := z.2; omega), Bool.and_true]
  simpa [PyData.canLay0] using z.1
theorem shaped_kind {y : Str} (hy : PyData.strOk y = true) {p : Str × Str} (h1 : allIn y p.1 = true) (h2 : allIn y p.2 = true) : SeqAt.shaped (kD p) = true := by
  unfold SeqAt.shaped
  simp [kD, PyData.canLay0, PyData.canLayAll0, PyData.depth, PyData.depthAll, strOk_in hy h1, strOk_in hy h2]
theorem d_notIn {σ : L2.St} {H : Hp} {ta tb : TE} {d : PyData} {ds : List PyData} (h : EvD K ta σ H d) (h2 : EvD K tb σ H (.list ds)) (sd : SeqAt.shaped d = true) (se : SeqAt.shaped (.list ds) = true) : EvD K (tOp (rNotInD K) ta tb) σ H (.bool (!ds.any fun z => PyData.eqv z d)) := fun H1 a Q q =>
  h H1 a _ fun v H2 u hd => h2 H2 (a.trans u) _ fun w H3 y he => ⟨d, ds, dp_ex y hd, he, sd, se, q _ H3 (u.trans y) (.bl _)⟩
abbrev nKinds : List Str := ["row", "letters", "most", "found", "turn", "kind"]
theorem sc_kinds : FnScope nKinds ["row", "letters", "most"] (defScope sKinds) := ⟨rfl, rfl, rfl, by decide +kernel, rfl, by decide +kernel, by decide +kernel⟩
def spKinds (K : PySem.W.Frag) : Sp := fun vs H Q _ => ∃ (r : Addr) (S : Addr × List Int) (y : Str) (m : Nat), vs = [.ref r, .str y, .int (m : Int)] ∧ Row K S H r ∧ PyData.strOk y = true ∧ 0 < y.length ∧ y.length ≤ 1000 ∧ m ≤ 1000 ∧
  ∀ v (ps : List (Str × Str)) H', Dp K H' v (.tuple (ps.map kD)) → ps.Nodup → ps.length ≤ m → (∀ p ∈ ps, Gd y p) → Bt r H H' → Row K S H' r → Q v H'
theorem c_kinds (D : Df K mg "_law_kinds" sKinds) (hb : Bl mg) (C1 : Cl P w K mg base 1 "_law_taken" (spTaken K) []) (C2 : Cl P w K mg base 2 "_law_pick" (spPick K) []) (C3 : Cl P w K mg base 3 "_law_text" (spText K) []) : Cl P w K mg base 4 "_law_kinds" (spKinds K) [] := by
  refine cl_of D sc_kinds (fun vs H Q E ⟨r, S, y, m, h, _⟩ => by rw [h]; rfl) (fun _ _ _ _ _ _ us hl => match us, hl with | [_, _, _], _ => rfl) fun f cdv A outer s H vs Q E hr h => ?_
  obtain ⟨r, S, y, m, rfl, hR, hso, hy, hy2, hm, q⟩ := h
  have hu : (A.deeper (envOfC "_law_kinds" (defScope sKinds) s.heap.objs.size f cdv)).units + 65 < cLine := by have := hr.un; omega
  refine ⟨_, pss_cons (ps_set (i := 3) sc_kinds.nd rfl (.inl rfl) (pe_lst pa_nil))
    (pss_cons (ps_for PassesOwn.never rfl (pi_range1 (by rfl) (hb _ (by decide +kernel)) (pa_cons (C8.pe_c C1 hr (by decide) (by rfl) (pa_cons (pv 0) (pa_cons (pe_op op_add (pv 2) pe_int) pa_nil))) pa_nil)) (pg_name (i := 4) sc_kinds.nd rfl (.inl rfl))
      (pss_cons (ps_set (i := 5) sc_kinds.nd rfl (.inl rfl) (pe_tup (pa_cons (C8.pe_c C3 hr (by decide) (by rfl) (pa_cons (pv 0) (pa_cons (pv 1) (pa_cons (C8.pe_c C2 hr (by decide) (by rfl) (pa_cons (pv 0) (pa_cons (pe_lst (pa_cons pe_int (pa_cons pe_int (pa_cons pe_int (pa_cons pe_int (pa_cons pe_int pa_nil)))))) pa_nil))) pa_nil)))) (pa_cons (C8.pe_c C3 hr (by decide) (by rfl) (pa_cons (pv 0) (pa_cons (pv 1) (pa_cons pe_int pa_nil)))) pa_nil))))
      (pss_one (ps_if (pw_and (pt_cmpR op_ne (pe_ix ix_tup (pv 5) pe_int (fun _ _ => rfl)) (pe_ix ix_tup (pv 5) pe_int (fun _ _ => rfl)) (nomark _)) (pw_and1 (pt_cmpR (op_notInD hu) (pv 5) (pv 3) rfl))).pt
        (pss_one (ps_expr (pe_bm PySem.F.plainAttrs_list PySem.F.slot_list_append PySem.F.type_list_append mt_append (pv 3) (pa_cons (pv 5) pa_nil)))) pss_nil))))
    (pss_one (ps_ret (pe_tupQ hb (pv 3))))), ?_⟩
  refine ⟨Evl.sz_of (Nat.zero_le _), fun l nl => ?_⟩
  have nL := row_new (o := .lst []) hR nl
  refine ⟨.ref r, rfl, .int (m : Int), rfl, _, _, rfl, rfl, r, S, (m : Int) + 1, rfl, nL.2.1, by omega, by omega, fun k H1 hk hb1 hR1 => ?_⟩
  have h1l : H1 l = some (.lst []) := hb1 l _ nL.1 upd_same
  refine ⟨(k : Int), rfl, by omega, by omega, ?_⟩
  refine for_range (lo := 0) (n := ((k : Int)).toNat) (fun i σ' H' => ∃ x4 x5, σ' = [some (.ref r), some (.str y), some (.int (m : Int)), some (.ref l), x4, x5] ∧ Bt r H H' ∧ Row K S H' r ∧ ∃ acc ps, H' l = some (.lst acc) ∧ DpAll K H' acc (ps.map kD) ∧ ps.Nodup ∧ ps.length ≤ i ∧ ∀ p ∈ ps, Gd y p)
    ⟨_, _, rfl, nL.2.2.trans hb1, hR1, [], [], h1l, .nil, List.nodup_nil, Nat.le_refl _, fun _ h => nomatch h⟩ (fun i σ' H' hi p => ?_) fun σ' H' p => ?_
  · obtain ⟨x4, x5, rfl, p1, p2, acc, ps, p3, p4, p5, p6, p7⟩ := p
    have okp : ∀ p ∈ ps, allIn y p.1 = true ∧ allIn y p.2 = true := fun p hp => ⟨(p7 p hp).2.2.1, (p7 p hp).2.2.2.1⟩
    -- kind = (.., ..)
    refine ⟨.ref r, rfl, .str y, rfl, .ref r, rfl, by show 5 ≤ sizeLine; decide, fun t nt => ?_⟩
    have nT := row_new (o := .lst [.int 1, .int 1, .int 2, .int 2, .int 3]) p2 nt
    refine ⟨r, S, t, [.int 1, .int 1, .int 2, .int 2, .int 3], rfl, nT.2.1, nT.1, Evl.sq_of upd_same, by decide, by decide, fun x H2 hx hb2 hR2 => ?_⟩
    have hx2 : ∃ n : Nat, n ≤ 3 ∧ x = .int (n : Int) := by
      simp only [List.mem_cons, List.not_mem_nil, or_false] at hx
      rcases hx with rfl | rfl | rfl | rfl | rfl
      · exact ⟨1, by omega, rfl⟩
      · exact ⟨1, by omega, rfl⟩
      · exact ⟨2, by omega, rfl⟩
      · exact ⟨2, by omega, rfl⟩
      · exact ⟨3, by omega, rfl⟩
    obtain ⟨n, hn, rfl⟩ := hx2
    refine ⟨r, S, y, n, rfl, hR2, hy, hy2, by omega, fun a H3 ha ha2 hb3 hR3 => ?_⟩
    refine ⟨.ref r, rfl, .str y, rfl, r, S, y, 1, rfl, hR3, hy, hy2, by omega, fun b H4 hb' hb2' hb4 hR4 => ?_⟩
    refine ⟨by show 2 ≤ sizeLine; decide, fun c nc => ?_⟩
    have tl : l ≠ t := fun e => by rw [e, nt] at p3; cases p3
    have b04 : Bt r H' H4 := nT.2.2.trans (hb2.trans (hb3.trans hb4))
    have h4l : H4 l = some (.lst acc) := b04 l _ nL.1 p3
    obtain ⟨G, eG⟩ : ∃ G, G = upd H4 c (.tup [.str a, .str b]) := ⟨_, rfl⟩
    have nC := row_new (o := .tup [.str a, .str b]) hR4 nc
    rw [← eG] at nC
    have cl : l ≠ c := fun e => by rw [e, nc] at h4l; cases h4l
    have hGl : G l = some (.lst acc) := by rw [eG, upd_ne cl]; exact h4l
    have bG : Bt r H' G := b04.trans nC.2.2
    have himm : immAll (ps.map kD) = true := immAll_of fun d hd => by
      obtain ⟨p, _, rfl⟩ := List.mem_map.mp hd
      rfl
    have hacc : DpAll K G acc (ps.map kD) := dpAll_tu (tu_bt p2 bG) himm p4
    have hc : Dp K G (.ref c) (kD (a, b)) := .tup (Evl.st_of (by rw [eG, upd_same])) (.cons (.str a) (.cons (.str b) .nil))
    dsimp only [gName]
    rw [← eG]
    have c5 : At K [some (.ref r), some (.str y), some (.int (m : Int)), some (.ref l), some (.int (0 + (i : Nat))), some (.ref c)] G 5 (kD (a, b)) := ⟨_, rfl, hc⟩
    have c3 : At K [some (.ref r), some (.str y), some (.int (m : Int)), some (.ref l), some (.int (0 + (i : Nat))), some (.ref c)] G 3 (.list (ps.map kD)) := ⟨_, rfl, .lst (Evl.sq_of hGl) hacc⟩
    refine Evl.s_if (b := (!decide (a = b)) && !((ps.map kD).any fun z => PyData.eqv z (kD (a, b)))) (Evl.et_and (t_ofD (d_neS (d_ixT (d_var c5) d_int rfl) (d_ixT (d_var c5) d_int rfl))) fun _ => t_ofD (d_notIn (d_var c5) (d_var c3) (shaped_kind hso ha2 hb2') (shaped_kinds hso okp))) (fun hcnd H5 e5 => ?_) fun _ H5 e5 => ?_
    · have hcnd2 : a ≠ b ∧ ¬ ((ps.map kD).any fun z => PyData.eqv z (kD (a, b))) = true := by
        simp only [Bool.and_eq_true, Bool.not_eq_true', decide_eq_false_iff_not] at hcnd
        exact ⟨hcnd.1, by rw [hcnd.2]; decide⟩
      have hnm : (a, b) ∉ ps := fun hmem => hcnd2.2 (List.any_eq_true.mpr ⟨_, List.mem_map_of_mem hmem, SeqAt.eqv_refl _ (SeqAt.canLay_of_shaped (shaped_kind hso ha2 hb2'))⟩)
      refine ⟨_, rfl, .inl ⟨rfl, acc, Evl.sq_of (e5 _ _ hGl)⟩, _, rfl, l, acc, .ref c, rfl, rfl, e5 _ _ hGl, Evl.sz_lt (by rw [dpAll_len p4, List.length_map]; omega), ?_⟩
      have kk := row_keep (o := .lst (acc ++ [.ref c])) hR nl ((p1.trans bG).trans (bt_ex e5)) (nC.2.1.ex e5)
      refine ⟨_, _, rfl, kk.2, kk.1, acc ++ [.ref c], ps ++ [(a, b)], upd_same, ?_, ?_, by rw [List.length_append]; show ps.length + 1 ≤ i + 1; omega, fun p hp => ?_⟩
      · rw [List.map_append]
        exact dpAll_snoc (dp_tu (tu_lst (e5 _ _ hGl)) rfl (dp_ex e5 hc)) (dpAll_tu (tu_lst (e5 _ _ hGl)) himm (dpAll_ex e5 hacc))
      · exact List.nodup_append.mpr ⟨p5, List.nodup_cons.mpr ⟨List.not_mem_nil, List.nodup_nil⟩, fun x hx y' hy' e => by rw [List.mem_singleton.mp hy'] at e; exact hnm (e ▸ hx)⟩
      · rcases List.mem_append.mp hp with hp | hp
        · exact p7 p hp
        · rw [List.mem_singleton.mp hp]
          exact ⟨by show a.length ≤ 3; omega, hb', ha2, hb2', hcnd2.1⟩
    · exact ⟨_, _, rfl, (p1.trans bG).trans (bt_ex e5), nC.2.1.ex e5, acc, ps, e5 _ _ hGl, dpAll_ex e5 hacc, p5, by omega, p7⟩
  · obtain ⟨x4, x5, rfl, p1, p2, acc, ps, p3, p4, p5, p6, p7⟩ := p
    refine AsKit.s_ret (K := K) (d_tupOf (d_var ⟨_, rfl, .lst (Evl.sq_of p3) p4⟩)) fun u H2 e2 hu => q u ps H2 hu p5 (by omega) p7 (p1.trans (bt_ex e2)) (p2.ex e2)
end
end K14

set_option maxHeartbeats 4000000
set_option autoImplicit true
/-! lambdas with parameters and captured names: made, called, handed to sorted. -/
namespace AsLam
open PySem PySem.Spec PyProof.Rows L2 LamX NdefX
open Evl (Ex)

/-- at f stands the lambda F, e its expression -/
def LamO (f : Addr) (F : NF) (e : Expr) : HO := .ext fun h => ∃ (od : Option Addr) (sl : Array (Option Value)) (pm ctv : Value), h.get? f = some (⟨.type "function", od, .func (PySem.W.kla_fn F.name F.qual F.params e F.scope F.cl pm (.ref F.c) ctv), sl⟩ : Obj)
theorem lamO_at {P : Program} {w : World} {H : Hp} {h : Heap} {f : Addr} {F : NF} {e : Expr} (ok : HOk P w H h) (q : H f = some (LamO f F e)) :
    ∃ (od : Option Addr) (sl : Array (Option Value)) (pm ctv : Value), h.get? f = some (⟨.type "function", od, .func (PySem.W.kla_fn F.name F.qual F.params e F.scope F.cl pm (.ref F.c) ctv), sl⟩ : Obj) := (ok f _ q).1

/-- its promise; ws what the captured names hold -/
structure LOk (P : Program) (w : World) (K : PySem.W.Frag) (mg : Str → Option Value) (base : Heap) (CX : CXT) (k : Nat) (f : Addr) (F : NF) (e : Expr) (ps fr : List Str) (sp : List (Option V) → Sp) : Prop where
  len : ∀ ws vs H Q E, sp ws vs H Q E → vs.length = ps.length
  run : ∀ (A : Around) (outer : List Env) (s : Shared) (H : Hp) (us : List Value) (vs : List V) (ws : List (Option V)) (Q : VK) (E : XK), Room k A → Env0 P w K mg base A outer s H → H f = some (LamO f F e) → H F.c = some (CodeO F.c F.qual) →
    CellsAt F.cl fr ws s.heap H → Vals vs us → sp ws vs H Q E → codeAny (model P w) A (.call (.ref f) ⟨us, []⟩) (CR CX outer P w H s Q E) s
section
variable {CX : CXT} {P : Program} {w : World} {K : PySem.W.Frag} {mg : Str → Option Value} {base : Heap} {N ps fr : List Str} {F : NF} {f : Addr} {k : Nat} {e : Expr} {sp : List (Option V) → Sp}
theorem lok_of (S : NScope N ps fr F.scope) (hb : ∀ (pm ctv : Value) (us : List Value), us.length = ps.length → bindArgs (PySem.W.kla_fn F.name F.qual F.params e F.scope F.cl pm (.ref F.c) ctv) ⟨us, []⟩ = pure (ps.zip us)) (len : ∀ ws vs H Q E, sp ws vs H Q E → vs.length = ps.length)
    (body : ∀ (A : Around) (outer : List Env) (s : Shared) (H : Hp) (vs : List V) (ws : List (Option V)) (Q : VK) (E : XK), Room k (A.deeper (envF F f s.heap.objs.size)) → ws.length = fr.length → sp ws vs H Q E →
      ∃ t, PE (ncx CX P w K mg base N F f A outer s H E) e t ∧ t (startF N vs ws) H Q) : LOk P w K mg base CX (k + 1) f F e ps fr sp := by
  refine ⟨len, fun A outer s H us vs ws Q E hr e0 hf hc C r hsp => ?_⟩
  have hl := len _ _ _ _ _ hsp
  have lim : s.heap.NoLimit := e0.mod.nolimit.keeps fun b o q => (e0.bs b o q).1
  obtain ⟨od, sl, pm, ctv, ho⟩ := lamO_at e0.hok hf
  refine PySem.W.kla_callFunE hr.depth ho rfl S.co S.gen rfl (codeO_at e0.hok hc) ?_
  rw [hb pm ctv us (by rw [← r.length]; exact hl)]
  refine wpAny_pure (wpAny_newFunctionEnv S.nocell (fun ⟨n, _⟩ hy => S.par n (List.of_mem_zip hy).1) (fun h1 hns hsb => ⟨lim.fresh _ hsb, ?_⟩) S.kind)
  show codeAny _ _ (.expr e (envF F f s.heap.objs.size)) _ _
  have kp : ∀ b o, s.heap.get? b = some o → h1.get? b = some o := fun b o q => hsb.extBut b o (Nat.ne_of_lt (Heap.lt_size q)) (Heap.get?_push_of_some _ q)
  obtain ⟨t, ht, hq⟩ := body A outer s H vs ws Q E (hr.deeper _) C.len hsp
  have I : Inv (ncx CX P w K mg base N F f A outer s H E) [] (startF N vs ws) H { s with heap := h1, toks := s.toks + (ps.zip us).length } := inv_startN S hr.hd e0 hl r C hns kp
  refine PySem.W.kla_codeExpr (wpAny_mono (ht.run [] _ (startF N vs ws) H _ I hq) (fun v s' hs => ?_) fun e' s' hs => hs)
  obtain ⟨v', H', J, rv, q⟩ := hs
  exact ⟨v', H', J.os, J.bare, J.base, J.hok, rv, q⟩
end

section
variable {X : Cx} {pins : List (Addr × Obj)} {σ : L2.St} {H : Hp} {s : Shared}
theorem inv_lam {F : NF} {e : Expr} {o : Obj} {t' : Nat} {pm ctv : Value} (I : Inv X pins σ H s) (ho : o = { cls := .type "function", data := .func (PySem.W.kla_fn F.name F.qual F.params e F.scope F.cl pm (.ref F.c) ctv) }) :
    Inv X pins σ (upd H s.heap.objs.size (LamO s.heap.objs.size F e)) { s with heap := s.heap.push o, toks := t' } := by
  subst ho
  have z : (s.heap.push ({ cls := .type "function", data := .func (PySem.W.kla_fn F.name F.qual F.params e F.scope F.cl pm (.ref F.c) ctv) } : Obj)).get? s.heap.objs.size = some _ := Heap.get?_push_size _ rfl
  exact I.laid (a := s.heap.objs.size) (fun b u q => Heap.get?_push_of_some _ q) (Nat.le_refl _) ⟨⟨_, _, pm, ctv, z⟩, ⟨_, z⟩, fun h1 h2 ⟨od, sl, p, t, y⟩ st => ⟨od, sl, p, t, st _ y⟩⟩
abbrev lamF (X : Cx) (params : Arguments) (scope : Scope) (c' : Addr) : NF := ⟨"<lambda>", X.env.qual ++ "<lambda>", params, [], scope, cloFrom X.env.cells scope.names [], c'⟩
/-- a lambda is made -/
theorem lam_make {T : List NTab} {nm : Nat → Nat → Str} {c P : Addr} {params : Arguments} {body : Expr} {scope : Scope} {pos : Pos} {E : Value → Shared → Prop} {Q : Value → Shared → Prop} (I : Inv X pins σ H s) (TB : TabB X.base X.mg c P) (hcode : X.env.code = .ref c)
    (hm : (P, nm) ∈ T) (hn : nm pos.line pos.col = X.env.qual ++ "<lambda>") (hu : ∀ p ∈ T, p.1 = P → p.2 = nm) (hT : TabsN T H) (hdef : defaultsOf params X.env = ([], [])) (hfree : ∀ y ∈ scope.names, y.2 = .free → ∃ c, X.env.cells.lookup y.1 = some c)
    (h : ∀ (f c' : Addr) (G : Hp) (z : Shared), Inv X pins σ G z → ExtN H G → (∀ b, G b = none → H b = none) → TabsN T G → H f = none → G f = some (LamO f (lamF X params scope c') body) → G c' = some (CodeO c' (X.env.qual ++ "<lambda>")) → Q (.ref f) z) :
    wpAny (model X.prog X.w) X.A (eval (.Lambda params body scope pos) X.env) Q E s := by
  obtain ⟨ps, hP, ht, ha⟩ := (show TabN H P nm from hT _ hm)
  refine PySem.W.kla_eval hdef ?_
  have bP : s.heap.BuiltinsAt X.mg P := TB.bm.keeps I.bk
  have oP : s.heap.get? P = some { cls := .none, data := .fields ps } := I.hok P _ hP
  cases hc : codeAmong pos ps.toList with
  | some cv =>
    obtain ⟨c', rfl, hco⟩ := ha pos cv hc
    rw [hn] at hco
    refine PySem.W.kla_makeFunctionHit (mg := X.mg) (c := c) (P := P) (ps := ps) (closure_ok hfree) I.ok.glob (I.mod.glob.keeps I.bk) hcode (TB.code.keeps I.bk) oP ht hc bP fun ctv h' tk hx _ => ?_
    have I1 : Inv X pins σ H { s with heap := h', toks := tk } := I.kept hx
    have nF : H h'.objs.size = none := I1.hok.fresh (Nat.le_refl _)
    have I2 := inv_lam (F := lamF X params scope c') (e := body) (t' := tk) (pm := (X.mg "__name__").getD .none) (ctv := ctv) I1 rfl
    exact h h'.objs.size c' _ _ I2 (fun b o e _ => (upd_ne (ne_of_none e nF)).trans e) (fun b e => upd_none e) (hT.ext fun b o e => (upd_ne (ne_of_none e nF)).trans e) nF upd_same ((upd_ne (ne_of_none hco nF)).trans hco)
  | none =>
    refine PySem.W.kla_makeFunction (mg := X.mg) (c := c) (P := P) (ps := ps) (closure_ok hfree) I.ok.glob (I.mod.glob.keeps I.bk) hcode (TB.code.keeps I.bk) oP ht hc TB.gP bP fun c' ctv h' tk hx hge hlt hrec htb => ?_
    obtain ⟨c2, oc, vs, t, e2, hoc, hd, hv⟩ := hrec
    cases e2
    have nC : H c' = none := I.hok.fresh hge
    obtain ⟨more, emore⟩ : ∃ more : Array Value, more = #[rawInt pos.line, rawInt pos.col, .ref c'] := ⟨_, rfl⟩
    rw [← emore] at htb
    obtain ⟨G, eG⟩ : ∃ G, G = upd (upd H P (.tbl (ps ++ more))) c' (CodeO c' (X.env.qual ++ "<lambda>")) := ⟨_, rfl⟩
    have I1 : Inv X pins σ G { s with heap := h', toks := tk } := by
      rw [eG]
      exact inv_table (t' := tk) (more := more) (h' := h') I hP (fun b o hb e => hx b o hb e) htb hge ⟨oc, vs, t, hoc, hd, hv⟩
    have gE : ExtN H G := fun b o e n => by
      rw [eG, upd_ne (ne_of_none e nC), upd_ne (fun z => n ps (Option.some.inj (e.symm.trans (by rw [z]; exact hP))))]
      exact e
    have gN : ∀ b, G b = none → H b = none := fun b e => by
      rw [eG] at e
      exact upd_none (upd_none e)
    have gC : G c' = some (CodeO c' (X.env.qual ++ "<lambda>")) := by rw [eG]; exact upd_same
    have gP : G P = some (.tbl (ps ++ more)) := by rw [eG, upd_ne (ne_of_none hP nC), upd_same]
    have eL : (ps ++ more).toList = ps.toList ++ [rawInt pos.line, rawInt pos.col, .ref c'] := by rw [emore]; simp
    have gT : TabsN T G := fun p hp => by
      by_cases hb : p.1 = P
      · rw [hu p hp hb, hb]
        refine ⟨_, gP, by rw [eL]; exact PySem.TriplesOk_snoc _ _ _ _ ht, fun p' cv hcv => ?_⟩
        rw [eL] at hcv
        rcases among_app2 _ ht hcv with z | ⟨z, z1, z2⟩
        · obtain ⟨c0, e1, e3⟩ := ha p' cv z
          exact ⟨c0, e1, gE _ _ e3 codeO_ne⟩
        · exact ⟨c', z, by rw [← z1, ← z2, hn]; exact gC⟩
      · obtain ⟨ps', a1, a2, a3⟩ := hT p hp
        refine ⟨ps', by rw [eG, upd_ne (ne_of_none a1 nC), upd_ne hb]; exact a1, a2, fun p' cv hcv => ?_⟩
        obtain ⟨c0, e1, e3⟩ := a3 p' cv hcv
        exact ⟨c0, e1, gE _ _ e3 codeO_ne⟩
    have nF : G h'.objs.size = none := I1.hok.fresh (Nat.le_refl _)
    have I2 := inv_lam (F := lamF X params scope c') (e := body) (t' := tk) (pm := (X.mg "__name__").getD .none) (ctv := ctv) I1 rfl
    refine h h'.objs.size c' _ _ I2 (fun b o e n => (upd_ne (ne_of_none (gE b o e n) nF)).trans (gE b o e n)) (fun b e => gN b (upd_none e)) (gT.ext fun b o e => (upd_ne (ne_of_none e nF)).trans e) (gN _ nF) upd_same ((upd_ne (Nat.ne_of_lt hlt)).trans gC)
end

section
variable {X : Cx}
/-- the value of a lambda -/
def tLam (T : List NTab) (mk : Addr → NF) (e : Expr) : TE := fun _ H Q => TabsN T H ∧ ∀ (f c' : Addr) (G : Hp), ExtN H G → (∀ b, G b = none → H b = none) → TabsN T G → H f = none → G f = some (LamO f (mk c') e) → G c' = some (CodeO c' (mk c').qual) → Q (.ref f) G
theorem pe_lam {T : List NTab} {nm : Nat → Nat → Str} {c P : Addr} {params : Arguments} {body : Expr} {scope : Scope} {pos : Pos} (TB : TabB X.base X.mg c P) (hcode : X.env.code = .ref c) (hm : (P, nm) ∈ T) (hn : nm pos.line pos.col = X.env.qual ++ "<lambda>") (hu : ∀ p ∈ T, p.1 = P → p.2 = nm)
    (hfree : ∀ y ∈ scope.names, y.2 = .free → X.env.scope.names.lookup y.1 = some .cell ∨ X.env.scope.names.lookup y.1 = some .free) (hdef : defaultsOf params X.env = ([], []) := by rfl) : PE X (.Lambda params body scope pos) (tLam T (lamF X params scope) body) := by
  refine ⟨fun pins s σ H Q I h => ?_⟩
  obtain ⟨hT, h⟩ := h
  exact lam_make I TB hcode hm hn hu hT hdef (fun y hy e => (hfree y hy e).elim (fun z => I.ok.has _ (.inl z)) fun z => I.ok.has _ (.inr z)) fun f c' G z J e1 e2 e3 e4 e5 e6 => ⟨.ref f, G, J, rfl, h f c' G e1 e2 e3 e4 e5 e6⟩

/-- a lambda without captured names as a key -/
theorem keys_lam {k : Nat} {f : Addr} {F : NF} {e : Expr} {x : Str} {pre : List PyData → Prop} {g : List PyData → PyData} {H : Hp} {xs : List V} {ds : List PyData} (L : LOk X.prog X.w X.K X.mg X.base CX0 k f F e [x] [] (fun _ => AsSort.spP X.K pre g)) (hr : Room (k + 2) X.A)
    (hf : H f = some (LamO f F e)) (hc : H F.c = some (CodeO F.c F.qual)) (hcl : F.cl = []) (hd : DpAll X.K H xs ds) (hp : ∀ d ∈ ds, pre [d]) : AsSort.Keys X (.ref f) H xs (ds.map fun d => g [d]) := by
  intro pins σ G z i v u d I ex hx hk ru
  rw [List.getElem?_map] at hk
  cases hi : ds[i]? with
  | none => rw [hi] at hk; cases hk
  | some d0 =>
    rw [hi] at hk
    have ed : g [d0] = d := Option.some.inj hk
    have hv : Dp X.K G v d0 := AsSort.dp_ex ex (AsSort.dpAll_get hd hx hi)
    have E0' : Env0 X.prog X.w X.K X.mg X.base X.A.in1.in1 X.stack z G := I.env0.in1.in1
    have C : CellsAt F.cl [] [] z.heap G := by
      rw [hcl]
      exact ⟨rfl, fun _ _ q => (nomatch q), fun _ _ _ q => (nomatch q), fun i y q => (nomatch q)⟩
    refine wpAny_call (codeAny_mono (L.run X.A.in1.in1 X.stack z G [u] [v] [] (fun v G' => Ex G G' ∧ Dp X.K G' v d) E0 hr.in1.in1 E0' (ex _ _ hf) (ex _ _ hc) C (.cons ru .nil) ⟨[d0], .cons hv .nil, hp d0 (List.mem_of_getElem? hi), fun w' G' e' h' => ⟨e', by rw [← ed]; exact h'⟩⟩) fun r s' hq => ?_)
    cases r with
    | error e => exact hq.elim
    | ok fl =>
      cases fl with
      | ret u => exact I.after hq
      | next => exact False.elim hq
      | brk => exact False.elim hq
      | cont => exact False.elim hq

/-- sorted(xs, key=f), f a lambda of the kind that mk tells -/
def rSortLam (K : PySem.W.Frag) (mk : Addr → NF) (e : Expr) (pre : List PyData → Prop) (g : List PyData → PyData) : List V → List V → Hp → VK → Prop := fun vs zs H Q => ∃ (l f c' : Addr) (xs : List V) (ds : List PyData), vs = [.ref l] ∧ zs = [.ref f] ∧ H f = some (LamO f (mk c') e) ∧ H c' = some (CodeO c' (mk c').qual) ∧
  (SqL K H l xs ∨ SqT K H l xs) ∧ DpAll K H xs ds ∧ (∀ d ∈ ds, pre [d]) ∧
  PySem.W.AllAlike (ds.map fun d => g [d]) ∧ PySem.W.Sortable (ds.map fun d => g [d]) ∧ AsSort.immAll (ds.map fun d => g [d]) = true ∧ (∀ d ∈ ds, (g [d]).depth ≤ 50) ∧
  ∀ p ys G, H p = none → Ex H G → G p = some (.lst ys) → DpAll K G ys (AsSort.sortD (fun d => g [d]) ds) → Q (.ref p) G
theorem cr_sortLam {k : Nat} {mk : Addr → NF} {e : Expr} {x : Str} {pre : List PyData → Prop} {g : List PyData → PyData} (L : ∀ f c', LOk X.prog X.w X.K X.mg X.base CX0 k f (mk c') e [x] [] (fun _ => AsSort.spP X.K pre g)) (hr : Room (k + 2) X.A) (hcl : ∀ c', (mk c').cl = []) (hc : ∀ c', (mk c').c = c') :
    CallRK X (.builtin "sorted") [Str.ofString "key"] (rSortLam X.K mk e pre g) := by
  intro pins s σ H vs zs us ws Q I r rz h
  obtain ⟨l, f, c', xs, ds, rfl, rfl, hf, hco, hs, hd, hp, hal, hso, him, hdep, q⟩ := h
  obtain rfl := Vals.ref1 r
  obtain ⟨w1, rfl, e1⟩ := vals1 rz
  obtain rfl : w1 = Value.ref f := e1
  refine AsSort.sorted_run (rev := false) I hs (keys_lam (L f c') hr hf (by rw [hc]; exact hco) (hcl c') hd hp) (by rw [List.length_map, AsSort.dpAll_len hd]) him hal hso (fun d hm => ?_) (PyProof.Rows.ksk_s1 _ _) (fun _ => PyProof.Rows.ksk_l1 _ _) (fun a => PyProof.Rows.ksk_t1 f a) fun p G np e => ?_
  · obtain ⟨d0, h0, rfl⟩ := List.mem_map.mp hm
    have h1 := hdep d0 h0
    have h2 := hr.un
    show X.A.units + 1 + 1 + (g [d0]).depth < cLine
    omega
  · exact q p _ G np ((Ex.new np).trans e) (e _ _ upd_same) (AsSort.dpAll_ex ((Ex.new np).trans e) (AsSort.byKey_dp _ hd))
end
end AsLam

set_option maxHeartbeats 4000000
set_option autoImplicit false
namespace AsKit
open PySem PySem.Spec PyProof.Rows L2 AsSort
open Evl (Ex Ev EvT EvA)
open LamX (ExtN)
theorem seq_extN {K : PySem.W.Frag} {H H' : Hp} {a : Addr} {xs : List V} (e : ExtN H H') (s : SqL K H a xs) : SqL K H' a xs := by
  rcases s with (s | ⟨o, s⟩) | s
  · exact .inl (.inl (e _ _ s fun _ z => nomatch z))
  · exact .inl (.inr ⟨o, e _ _ s fun _ z => nomatch z⟩)
  · exact .inr s
theorem tup_extN {K : PySem.W.Frag} {H H' : Hp} {a : Addr} {xs : List V} (e : ExtN H H') (s : SqT K H a xs) : SqT K H' a xs := by
  rcases s with (s | ⟨o, s⟩) | s
  · exact .inl (.inl (e _ _ s fun _ z => nomatch z))
  · exact .inl (.inr ⟨o, e _ _ s fun _ z => nomatch z⟩)
  · exact .inr s
mutual
theorem dp_extN {K : PySem.W.Frag} {G G' : Hp} (e : ExtN G G') : ∀ {v : V} {d : PyData}, Dp K G v d → Dp K G' v d
  | _, _, .non => .non
  | _, _, .bl b => .bl b
  | _, _, .int i => .int i
  | _, _, .str x => .str x
  | _, _, .lst a b => .lst (seq_extN e a) (dpAll_extN e b)
  | _, _, .tup a b => .tup (tup_extN e a) (dpAll_extN e b)
theorem dpAll_extN {K : PySem.W.Frag} {G G' : Hp} (e : ExtN G G') : ∀ {vs : List V} {ds : List PyData}, DpAll K G vs ds → DpAll K G' vs ds
  | _, _, .nil => .nil
  | _, _, .cons a b => .cons (dp_extN e a) (dpAll_extN e b)
end
theorem extN_ex {H H' : Hp} (e : Ex H H') : ExtN H H' := ExtN.of e
/-- a def of the top, its code object at c -/
def Dfc (K : PySem.W.Frag) (mg : Str → Option Value) (x : Str) (st : Stmt) (c : Addr) : Prop := ∃ f fd, FunD K x x (defArgs st) (defBody st) (defScope st) [] [] f fd ∧ mg x = some (.ref f) ∧ fd.code = .ref c
theorem cl_ofC {P : Program} {w : World} {K : PySem.W.Frag} {mg : Str → Option Value} {base : Heap} {x : Str} {st : Stmt} {N ps : List Str} {k : Nat} {sp : Sp} {c : Addr} (D : Dfc K mg x st c) (S : FnScope N ps (defScope st)) (len : ∀ vs H Q E, sp vs H Q E → vs.length = ps.length)
    (hb : ∀ (kV doc pm : Value) (an : Option Addr) (cdv ct : Value) (us : List Value), us.length = ps.length → bindArgs (PySem.W.fnOf x x (defArgs st) (defBody st) (defScope st) .none kV doc pm an cdv ct) ⟨us, []⟩ = pure (ps.zip us))
    (hbody : ∀ (f : Addr) (A : Around) (outer : List Env) (s : Shared) (H : Hp) (vs : List V) (Q : VK) (E : XK), Room k (A.deeper (envOfC x (defScope st) s.heap.objs.size f (.ref c))) → sp vs H Q E →
      ∃ t, PSs (cxOf CX0 P w K mg base N x (defScope st) f (.ref c) A outer s H E).nox (defBody st) t ∧ t { nx := fun _ H' => Q .non H', rt := Q } (start N vs) H) : Cl P w K mg base (k + 1) x sp [] := by
  obtain ⟨f, fd, F, hm, hc⟩ := D
  refine ⟨f, fd, ps, [], ?_, hm, F.kp, F.bindsN hb, .nil⟩
  obtain ⟨oc, od, dV, kV, doc, pm, an, cdv, ct, osl, rfl, lk, hcd, _, _⟩ := F.ex
  have e : cdv = .ref c := hc
  subst e
  refine fn_of lk hcd S len fun A outer s H vs Q E hr h => ?_
  obtain ⟨t, z, q⟩ := hbody f A outer s H vs Q E hr h
  exact ⟨t, z.nox, q⟩
section
variable {K : PySem.W.Frag} {σ : L2.St} {H : Hp} {to te ta tb : TE}
def rSW : V → List V → Hp → VK → Prop := fun x xs H Q => ∃ a b, x = .str a ∧ xs = [.str b] ∧ Q (.bl (Txt.startswith a b)) H
theorem d_sw {a b : Str} (h : EvD K to σ H (.str a)) (h2 : EvD K te σ H (.str b)) : EvD K (tM1 rSW to te) σ H (.bool (Txt.startswith a b)) := fun H1 e Q q =>
  h H1 e _ fun v H2 x hd => by
    cases hd
    exact ⟨⟨a, rfl⟩, h2 H2 (e.trans x) _ fun w H3 y he => by
      cases he
      exact ⟨a, b, rfl, rfl, q _ H3 (x.trans y) (.bl _)⟩⟩
theorem e_lcL {tl : TE} {t : TT} {gt : TG} {vs : List Nat} {ds : List PyData} (f : PyData → Bool) (g : PyData → PyData) (h : EvD K tl σ H (.list ds)) (hz : ds.length ≤ 50000) (him : ∀ d ∈ ds, f d = true → imm (g d) = true) (ht : ∀ d ∈ ds, Turn K gt t te vs σ H d (f d) (g d)) (H1 : Hp) (a : Ex H H1) (Q : VK)
    (q : ∀ p acc H2, H1 p = none → Ex H1 H2 → H2 p = some (.lst acc) → DpAll K H2 acc ((ds.filter f).map g) → Q (.ref p) H2) : tLc (iList K tl) gt t te vs σ H1 Q := h H1 a _ fun v H2 x hd => by
  cases hd with
  | lst hs hx =>
    refine ⟨_, rfl, ⟨_, hs⟩, fun D hD => lc_list (Cd K H2 ds f g D) (cd_start hD) (fun i H' _ p => Evl.ex_l p.2.1 hs) (fun i y H' hi p => ?_) fun H' p => ?_⟩
    · have hi2 : i < ds.length := by rw [← dpAll_len hx]; exact (List.getElem?_eq_some_iff.mp hi).1
      have hd : ds[i]? = some ds[i] := List.getElem?_eq_getElem hi2
      exact ht ds[i] (List.getElem_mem hi2) y H' (a.trans (x.trans p.2.1)) (dp_ex p.2.1 (dpAll_get hx hi hd)) _ fun σ2 w h1 h2 => ⟨w, cd_turn him p hd hz h1 h2⟩
    · rw [dpAll_len hx] at p
      obtain ⟨p1, p2, acc, p3, p4⟩ := p
      rw [List.take_length] at p4
      exact q D acc H' (Evl.fresh_back x p1) (x.trans p2) p3 p4
end
end AsKit

namespace K14
open PySem PySem.Spec PyProof.Rows L2 AsSort AsKit
open Evl (Ex Ev EvT EvA)
open LamX (ExtN TabB)
open NdefX (TabsN NTab NScope nscope_by NF startF)
section
variable {P : Program} {w : World} {K : PySem.W.Frag} {mg : Str → Option Value} {base : Heap}
/-- the lambda of _law_deeds -/
def lamIn (st : Stmt) : Expr := match defBody st with
  | _ :: .For _ _ (_ :: .Assign _ (.Call _ _ (⟨_, e, _⟩ :: _) _) _ :: _) _ _ :: _ => e
  | _ => .Constant .none 0 ⟨0, 0, 0, 0⟩
def lamPar : Expr → Arguments
  | .Lambda p _ _ _ => p
  | _ => ⟨[], [], none, [], [], none, []⟩
def lamBody : Expr → Expr
  | .Lambda _ b _ _ => b
  | e => e
def lamScope : Expr → Scope
  | .Lambda _ _ s _ => s
  | _ => ⟨.function, [], false, false, []⟩
abbrev lamQ : Str := "_law_deeds.<locals>.<lambda>"
abbrev preK (ds : List PyData) : Prop := ∃ p : Str × Str, ds = [kD p] ∧ p.1.length ≤ 40000 ∧ p.2.length ≤ 40000
end
end K14

set_option maxHeartbeats 4000000
set_option autoImplicit false
namespace K14
open PySem PySem.Spec PyProof.Rows L2 AsSort AsKit
open Evl (Ex Ev EvT EvA)
open LamX (ExtN TabB)
open NdefX (TabsN NTab NScope nscope_by NF startF)
section
variable {P : Program} {w : World} {K : PySem.W.Frag} {mg : Str → Option Value} {base : Heap}
theorem kinds_filter (f : PyData → Bool) (g : Str × Str → Bool) (h : ∀ p, f (kD p) = g p) (ps : List (Str × Str)) : (((ps.map kD).filter f).map id) = (ps.filter g).map kD := by
  rw [List.map_id, List.filter_map]
  exact congrArg (List.map kD) (List.filter_congr fun p _ => h p)
abbrev nDeedsL : List Str := ["kinds", "text", "found", "place", "here", "kind", "l", "r"]
def lamTab (T : Addr) : List NTab := [(T, fun _ _ => lamQ)]
def spDeedsL (K : PySem.W.Frag) (Ts : List NTab) : Sp := fun vs H Q _ => ∃ (v : V) (ps : List (Str × Str)) (z : Str), vs = [v, .str z] ∧ Dp K H v (.tuple (ps.map kD)) ∧ z.length ≤ 400 ∧ ps.length ≤ 60 ∧ (∀ p ∈ ps, p.1.length ≤ 40 ∧ p.2.length ≤ 40) ∧ TabsN Ts H ∧
  ∀ (l : Addr) (acc : List V) (H' : Hp), ExtN H H' → TabsN Ts H' → H' l = some (.lst acc) → DpAll K H' acc (deedsL ps z) → Q (.ref l) H'
end
end K14

set_option maxHeartbeats 4000000
set_option autoImplicit false
/-! defs that raise an exception of the program's own, made without arguments. -/
namespace AsKit
open PySem PySem.Spec PyProof.Rows L2 AsSort
open Evl (Ex Ev EvT EvA)
theorem pmk_own0 {X : Cx} {C : Addr} {bmB : List Value} {B newId initId : String} {x : Str} {p pos : Pos} (F : ExcBaseFacts B newId initId bmB) (q : PySem.W.excIn X.K C bmB newId = true) (gC : X.mg x = some (.ref C)) (kC : PySem.W.keepIn X.K (.ref C) = true) (r : Raises X (.ref C)) (hg : Gl X x)
    (hdb : (x == ("__debug__" : Str)) = false := by decide) : PMk X (.Call (.Name x p) [] [] pos) (fun _ H Q => Q (.ref C) none H) := by
  intro pins s σ H Q I h
  refine wpAny_Call_Name_kw (ld_glob I hg gC ?_ hdb)
  refine PySem.W.callWith_K0 I.kIn kC ?_
  show wpAny _ _ (call (.ref C) []) _ _ _
  obtain ⟨bm, N, nm, qn, bs, hdct, sn, sub, ab, col, dd, k0, k1, k2, k3, k5, mN, hC, hN, hni, T⟩ := exc_obj I.kIn q
  refine wpAny_call_exc_subT F T hC hN hni (fun h' e hm => ?_) (Nat.zero_le _)
  exact mk_of I hm r h (I.hok.gone hm.new)
/-- a class of the top, over ValueError, without its own __init__ -/
structure Ec (K : PySem.W.Frag) (mg : Str → Option Value) (x : Str) (C : Addr) : Prop where
  g : mg x = some (.ref C)
  ex : PySem.W.excIn K C [.type "ValueError", .type "Exception", .type "BaseException", .type "object"] "ValueError.__new__" = true
  kp : PySem.W.keepIn K (.ref C) = true
  sb : PySem.W.subIn K (.ref C) (.type "BaseException") = some true
  ty : PySem.W.typeIn K (.ref C) = some (.type "type")
theorem ps_raise0 {X : Cx} {x : Str} {C : Addr} {W : WX} {p pos pos2 : Pos} (c : Ec X.K X.mg x C) (hc : X.calm = true) (tk : Takes X W) (hg : Gl X x) (hdb : (x == ("__debug__" : Str)) = false := by decide) : PS X (.Raise (some (.Call (.Name x p) [] [] pos)) none pos2) (fun _ σ H => W (.ref C) none σ H) :=
  ps_raise hc tk (pmk_own0 PySem.F.excBase_ValueError c.ex c.g c.kp (raises_own c.sb c.ty) hg hdb)
/-- a def that may raise -/
def Klx (P : Program) (w : World) (K : PySem.W.Frag) (mg : Str → Option Value) (base : Heap) (k : Nat) (x : Str) (ps : List Str) (sp : Sp) : Prop := ∃ f fd, FnOk P w K mg base (L2.CX P w) k f fd ps sp ∧ mg x = some (.ref f) ∧ PySem.W.keepIn K (.ref f) = true ∧ Binds K fd ps []
theorem klx_of {P : Program} {w : World} {K : PySem.W.Frag} {mg : Str → Option Value} {base : Heap} {x : Str} {st : Stmt} {N ps : List Str} {k : Nat} {sp : Sp} (D : Df K mg x st) (S : FnScope N ps (defScope st)) (len : ∀ vs H Q E, sp vs H Q E → vs.length = ps.length)
    (hb : ∀ (kV doc pm : Value) (an : Option Addr) (cdv ct : Value) (us : List Value), us.length = ps.length → bindArgs (PySem.W.fnOf x x (defArgs st) (defBody st) (defScope st) .none kV doc pm an cdv ct) ⟨us, []⟩ = pure (ps.zip us))
    (hbody : ∀ (f : Addr) (cdv : Value) (A : Around) (outer : List Env) (s : Shared) (H : Hp) (vs : List V) (Q : VK) (E : XK), Room k (A.deeper (envOfC x (defScope st) s.heap.objs.size f cdv)) → sp vs H Q E →
      ∃ t, PSs (cxOf (L2.CX P w) P w K mg base N x (defScope st) f cdv A outer s H E) (defBody st) t ∧ t { nx := fun _ H' => Q .non H', rt := Q } (start N vs) H) : Klx P w K mg base (k + 1) x ps sp := by
  obtain ⟨f, fd, F, hm⟩ := D
  exact ⟨f, fd, F.ok S len fun cdv A outer s H vs Q E hr h => hbody f cdv A outer s H vs Q E hr h, hm, F.kp, F.bindsN hb⟩
/-- the promise of a check: nothing where all is right, else the exception of the class at C -/
def spCk (K : PySem.W.Frag) (pre : List PyData → Prop) (ok : List PyData → Bool) (C : Addr) : Sp := fun vs H Q E => ∃ ds, DpAll K H vs ds ∧ pre ds ∧ (ok ds = true → ∀ H', Ex H H' → Q .non H') ∧ (ok ds = false → ∀ H', Ex H H' → E (.ref C) none H')
theorem len_ck {K : PySem.W.Frag} {pre : List PyData → Prop} {ok : List PyData → Bool} {C : Addr} {n : Nat} (h : ∀ ds, pre ds → ds.length = n) : ∀ vs H Q E, spCk K pre ok C vs H Q E → vs.length = n := fun vs H Q E ⟨ds, a, b, _⟩ => (dpAll_len a).trans (h ds b)
end AsKit

set_option maxHeartbeats 4000000
set_option autoImplicit false
/-! the checks as defs that raise. -/
namespace K14
open PySem PySem.Spec PyProof.Rows L2 AsSort AsKit
open Evl (Ex Ev EvT EvA)
section
variable {P : Program} {w : World} {K : PySem.W.Frag} {mg : Str → Option Value} {base : Heap}
def okL1 : List PyData → Bool
  | [d] => isLettersD d
  | _ => false
abbrev spXLetters (K : PySem.W.Frag) (C : Addr) : Sp := spCk K (fun ds => ∃ d, ds = [d] ∧ Tx d) okL1 C
theorem x_check_letters {C : Addr} (D : Df K mg "check_letters" sCheckLetters) (c : Ec K mg "BadLetters" C) (C1 : Cl P w K mg base 1 "is_letters" (spIsLetters K) []) : Klx P w K mg base 2 "check_letters" ["letters"] (spXLetters K C) := by
  refine klx_of D sc_check_letters (len_ck fun ds ⟨d, h, _⟩ => by rw [h]; rfl) (fun _ _ _ _ _ _ us hl => match us, hl with | [_], _ => rfl) fun f cdv A outer s H vs Q E hr h => ?_
  obtain ⟨ds, hd, ⟨d, rfl, ht⟩, q1, q2⟩ := h
  obtain ⟨v, rfl, h0⟩ := dp1 hd
  refine ⟨_, pss_one (ps_if (pt_not (pt_val (C8.pe_c C1 hr (by decide) (by rfl) (pa_cons (pv 0) pa_nil)))) (pss_one (ps_raise0 c rfl (takes_of rfl rfl rfl rfl) (by rfl))) pss_nil), ?_⟩
  exact Evl.s_if (b := !(isLettersD d)) (Evl.et_not (t_ofB (d_call (ds_cons (d_var ⟨_, rfl, h0⟩) ds_nil) ⟨d, rfl, ht⟩))) (fun hb1 H1 e1 => q2 ((Bool.not_eq_true' _).mp hb1) H1 e1) fun hb1 H1 e1 => q1 ((Bool.not_eq_false' _).mp hb1) H1 e1
def okT2 : List PyData → Bool
  | [.str y, d] => withinD y 40 d
  | _ => false
abbrev spXText (K : PySem.W.Frag) (C : Addr) : Sp := spCk K (fun ds => ∃ y d, ds = [.str y, d] ∧ Tx d) okT2 C
theorem x_check_text {C : Addr} (D : Df K mg "check_text" sCheckText) (c : Ec K mg "BadText" C) (g40 : Gn mg "LONGEST_TEXT" 40) (C1 : Cl P w K mg base 2 "is_text_within" (spIsTextWithin K) []) : Klx P w K mg base 3 "check_text" ["letters", "text"] (spXText K C) := by
  refine klx_of D sc_check_text (len_ck fun ds ⟨y, d, h, _⟩ => by rw [h]; rfl) (fun _ _ _ _ _ _ us hl => match us, hl with | [_, _], _ => rfl) fun f cdv A outer s H vs Q E hr h => ?_
  obtain ⟨ds, hd, ⟨y, d, rfl, ht⟩, q1, q2⟩ := h
  obtain ⟨v, v2, rfl, h0, h1⟩ := dp2 hd
  refine ⟨_, pss_one (ps_if (pt_not (pt_val (C8.pe_c C1 hr (by decide) (by rfl) (pa_cons (pv 0) (pa_cons (pv 1) (pa_cons (pe_gn g40) pa_nil)))))) (pss_one (ps_raise0 c rfl (takes_of rfl rfl rfl rfl) (by rfl))) pss_nil), ?_⟩
  exact Evl.s_if (b := !(withinD y 40 d)) (Evl.et_not (t_ofB (d_call (ds_cons (d_var ⟨_, rfl, h0⟩) (ds_cons (d_var ⟨_, rfl, h1⟩) (ds_cons d_int ds_nil))) ⟨y, d, 40, rfl, ht⟩))) (fun hb1 H1 e1 => q2 ((Bool.not_eq_true' _).mp hb1) H1 e1) fun hb1 H1 e1 => q1 ((Bool.not_eq_false' _).mp hb1) H1 e1
def okK2 : List PyData → Bool
  | [.str y, d] => lotD y d
  | _ => false
abbrev spXKinds (K : PySem.W.Frag) (C : Addr) : Sp := spCk K (fun ds => ∃ y d, ds = [.str y, d] ∧ TxL d) okK2 C
theorem x_check_kinds {C : Addr} (D : Df K mg "check_kinds" sCheckKinds) (c : Ec K mg "BadKinds" C) (C1 : Cl P w K mg base 4 "is_lot" (spIsLot K) []) : Klx P w K mg base 5 "check_kinds" ["letters", "kinds"] (spXKinds K C) := by
  refine klx_of D sc_check_kinds (len_ck fun ds ⟨y, d, h, _⟩ => by rw [h]; rfl) (fun _ _ _ _ _ _ us hl => match us, hl with | [_, _], _ => rfl) fun f cdv A outer s H vs Q E hr h => ?_
  obtain ⟨ds, hd, ⟨y, d, rfl, ht⟩, q1, q2⟩ := h
  obtain ⟨v, v2, rfl, h0, h1⟩ := dp2 hd
  refine ⟨_, pss_one (ps_if (pt_not (pt_val (C8.pe_c C1 hr (by decide) (by rfl) (pa_cons (pv 0) (pa_cons (pv 1) pa_nil))))) (pss_one (ps_raise0 c rfl (takes_of rfl rfl rfl rfl) (by rfl))) pss_nil), ?_⟩
  exact Evl.s_if (b := !(lotD y d)) (Evl.et_not (t_ofB (d_call (ds_cons (d_var ⟨_, rfl, h0⟩) (ds_cons (d_var ⟨_, rfl, h1⟩) ds_nil)) ⟨y, d, rfl, ht⟩))) (fun hb1 H1 e1 => q2 ((Bool.not_eq_true' _).mp hb1) H1 e1) fun hb1 H1 e1 => q1 ((Bool.not_eq_false' _).mp hb1) H1 e1
/-- letters, kinds, text: which is wrong first; R, what is asked where all are right -/
def Ck3 (CL CK CT : Addr) (l k t : PyData) (H : Hp) (E : XK) (R : Hp → Prop) : Prop := Tx l ∧ (isLettersD l = false → ∀ H', Ex H H' → E (.ref CL) none H') ∧ ∀ y, l = .str y → isLetS y = true → TxL k ∧ (lotD y k = false → ∀ H', Ex H H' → E (.ref CK) none H') ∧
  (lotD y k = true → Tx t ∧ (withinD y 40 t = false → ∀ H', Ex H H' → E (.ref CT) none H') ∧ (withinD y 40 t = true → ∀ H', Ex H H' → R H'))
theorem Ck3.ex {CL CK CT : Addr} {l k t : PyData} {H H1 : Hp} {E : XK} {R : Hp → Prop} (h : Ck3 CL CK CT l k t H E R) (e : Ex H H1) : Ck3 CL CK CT l k t H1 E R :=
  ⟨h.1, fun a H' x => h.2.1 a H' (e.trans x), fun y e1 e2 => let ⟨a, b, c⟩ := h.2.2 y e1 e2; ⟨a, fun z H' x => b z H' (e.trans x), fun z => let ⟨u, v, w⟩ := c z; ⟨u, fun z H' x => v z H' (e.trans x), fun z H' x => w z H' (e.trans x)⟩⟩⟩
def spX3 (K : PySem.W.Frag) (CL CK CT : Addr) : Sp := fun vs H Q E => ∃ l k t, DpAll K H vs [l, k, t] ∧ Ck3 CL CK CT l k t H E (fun H' => Q .non H')
theorem letters_str {l : PyData} (h : isLettersD l = true) : ∃ y, l = .str y ∧ isLetS y = true := by
  cases l with
  | str y => exact ⟨y, rfl, h⟩
  | _ => cases h
end
end K14

set_option maxHeartbeats 4000000
set_option autoImplicit false
/-! an own exception over ValueError whose __init__ says super().__init__(a text), then stores one field. -/
namespace AsToo
open PySem PySem.Spec PyProof.Rows L2 NdefX
/-- what the written part says of the __init__ at f, of its class at C, its cell cc, its code object cda -/
structure SupF (P : Program) (K : PySem.W.Frag) (mg : Str → Option Value) (C f cc cda : Addr) (qual : Str) : Prop where
  cd : PySem.W.codeIn K (.ref cda) qual = true
  code : ∃ (ccl : Value) (cdd : Option Addr) (vs : Array Value) (ccs : Array (Option Value)) (file : Str) (tf : Tok), K.lookup cda = some ⟨ccl, cdd, .fields vs, ccs⟩ ∧ vs[2]? = some (.str file tf) ∧ ((P.main.file : Str) == file) = true
  cell : ∃ (cl : Value) (cld : Option Addr) (csl : Array (Option Value)), K.lookup cc = some ⟨cl, cld, .cell (some (.ref C)), csl⟩
  hD : ∃ cd, PySem.W.clsIn K C = some cd
  mro : PySem.W.mroIn K C (.ref C) = some true
  top : (P.main.scope.names.lookup ("super" : Str)).isSome = false
  al : PySem.W.ks_superIn K C C "__init__" = some (some (.builtin "ValueError.__init__"))
  opq : PySem.W.nsIn K cStatics "thirdparty.any" = some none
  ve : PySem.W.subIn K (.ref C) (.type "ValueError") = some true
  sup : mg "super" = none
  ox : OexC K C
abbrev bodyT (jl : List Expr) (pj : Pos) (p0 p1 p2 p3 p4 p5 p6 p7 p8 : Pos) : List Stmt :=
  [.Expr (.Call (.Attribute (.Call (.Name "super" p0) [] [] p1) "__init__" p2) [.JoinedStr jl pj] [] p3) p4, .Assign [.Attribute (.Name "self" p5) "most" p6] (.Name "most" p7) p8]
/-- what it promises -/
def spToo (K : PySem.W.Frag) (C : Addr) : Sp := fun vs H Q _ => ∃ (e : Addr) (m : Int), vs = [.ref e, .int m] ∧ m.natAbs.log2 < 100 ∧ H e = some (exo e C none) ∧ ∀ dx, H dx = none → dx ≠ e → Q .non (upd (upd H dx (exd dx [("most", .int m)])) e (exo e C (some dx)))
section
variable {X : Cx} {pins : List (Addr × Obj)} {σ : L2.St} {H : Hp} {s : Shared}
theorem pin_more {u : Addr} {o : Obj} {h' : Heap} {t' : Nat} (I : Inv X pins σ H s) (hu : s.heap.objs.size ≤ u) (k : ∀ b o, s.heap.get? b = some o → h'.get? b = some o) (e : h'.get? u = some o) (nc : ∀ v, o.data ≠ .cell v) : Inv X ((u, o) :: pins) σ H { s with heap := h', toks := t' } := by
  have J : Inv X pins σ H { s with heap := h', toks := t' } := I.kept k
  refine { J with pin := fun p hp => ?_ }
  rcases List.mem_append.mp hp with z | z
  · exact J.pin p (List.mem_append_left _ z)
  · rcases List.mem_cons.mp z with rfl | z
    · refine ⟨e, I.hok.fresh hu, fun q => ?_, I.nofs hu, nc⟩
      have h1 := I.lt
      have q' : u = X.env.locals := q
      rw [← q'] at h1
      exact absurd (Nat.lt_of_lt_of_le h1 hu) (Nat.lt_irrefl _)
    · exact J.pin p (List.mem_append_right _ z)
theorem pin_less {q : Addr × Obj} (I : Inv X (q :: pins) σ H s) : Inv X pins σ H s := { I with pin := fun p hp => I.pin p ((List.mem_append.mp hp).elim (fun z => List.mem_append_left _ z) fun z => List.mem_append_right _ (List.mem_cons_of_mem _ z)) }
/-- the bound __init__ called -/
theorem wrap_call {A : Around} {E : Value → Shared → Prop} {u e C : Addr} {us : List Value} {Q : Value → Shared → Prop} (T : OexC X.K C) (I : Inv X pins σ H s) (he : H e = some (exo e C none)) (hu : s.heap.get? u = some (PySem.W.kxs_mw "ValueError.__init__" e)) (hl : us.length ≤ sizeLine) (h : ∀ s', Inv X pins σ H s' → Q .none s') :
    wpAny (model X.prog X.w) A (call (.ref u) us) Q E s := by
  obtain ⟨nm, q, N, bs, bm, sn, sub, ab, col, dd, k0, k1, k2, k3, k5, hC, hbm⟩ := T.cls
  obtain ⟨t1, ho⟩ := exo_at I.hok he
  obtain ⟨hp, g, d, t, os⟩ := s
  have eu : upd H e (exo e C none) = H := funext fun b => by
    by_cases hb : b = e
    · rw [hb, upd_same, he]
    · exact upd_ne hb
  refine wpAny_call (codeAny_of_tree ?_)
  show wpAny _ A.in1 (callAny (.ref u) ⟨us, []⟩) _ _ _
  simp only [callAny]
  refine wpAny_bind (wpAny_load hu ?_)
  have y : (Value.type "method-wrapper" == Value.type "method" || Value.type "method-wrapper" == Value.type "builtin_function_or_method"
    || Value.type "method-wrapper" == Value.type "method-wrapper") = true := by decide
  simp only [PySem.W.kxs_mw, y, if_true]
  refine PySem.W.KFB.if_so (by decide) ?_
  refine wpAny_bind (PySem.W.check_bound_init F.excBase_ValueError.toExcCallFacts (I.kIn _ _ hC) ho rfl ?_)
  refine wpAny_bind (wpAny_pure (wpAny_pure ?_))
  refine ⟨plainId_quiet F.excBase_ValueError.init.plain _, codeAny_builtin F.excBase_ValueError.initEntry ?_⟩
  refine PySem.W.exc_init_tree (cls := .ref C) (t0 := t1) (dv := none) (c2 := .none) (c3 := .none) (b4 := .bool false) ho hl fun h' k hx _ => ?_
  have J := I.write (t' := t) (x := e) (e := e) (o := exo e C none) (by rw [he]; exact True.intro) (.inl rfl) k ⟨_, hx⟩ (exo_ok hx)
  rw [eu] at J
  exact h _ J
end
theorem one_look {k y : Str} {c d : Addr} (h : [(k, c)].lookup y = some d) : y = k ∧ d = c := by
  rw [List.lookup_cons] at h
  cases q : (y == k) with
  | true =>
    rw [q] at h
    exact ⟨beq_iff_eq.mp q, (Option.some.inj h).symm⟩
  | false =>
    rw [q] at h
    cases h
section
variable {P : Program} {w : World} {K : PySem.W.Frag} {mg : Str → Option Value} {base : Heap}
abbrev nT : List Str := ["self", "most", "__class__"]
abbrev nfT (name qual : Str) (params : Arguments) (body : List Stmt) (scope : Scope) (cc cda : Addr) : NF := ⟨name, qual, params, body, scope, [("__class__", cc)], cda⟩
theorem fnok_too {CX : CXT} {name qual : Str} {params : Arguments} {scope : Scope} {jl : List Expr} {pj : Pos} {p0 p1 p2 p3 p4 p5 p6 p7 p8 : Pos} {dV kV doc pm ct oc : Value} {an od : Option Addr} {osl : Array (Option Value)} {C f cc cda : Addr} {tj : Int → TE}
    (F : SupF P K mg C f cc cda qual) (lk : K.lookup f = some ⟨oc, od, .func (PySem.W.ksFn name qual params (bodyT jl pj p0 p1 p2 p3 p4 p5 p6 p7 p8) scope dV kV doc pm an (.ref cda) ct cc), osl⟩)
    (S : NScope nT ["self", "most"] ["__class__"] scope) (hsu : scope.names.lookup ("super" : Str) = some .globalImplicit) (hpa : (params.posonlyargs ++ params.args).head?.map (·.arg) = some ("self" : Str)) (hno : PySem.W.findIn K (.ref C) "most" = some none)
    (hjs : ∀ (A : Around) (outer : List Env) (s : Shared) (H : Hp) (E : XK) (m : Int), m.natAbs.log2 < 100 → ∃ t, PE (ncx CX P w K mg base nT (nfT name qual params (bodyT jl pj p0 p1 p2 p3 p4 p5 p6 p7 p8) scope cc cda) f A outer s H E) (.JoinedStr jl pj) t ∧
      ∀ (e : Addr) (G : Hp) (Q : VK), (∀ z : Str, Q (.str z) G) → t (startF nT [.ref e, .int m] [none]) G Q)
    {pl : Env → Sem Bool} (hev : ∀ env : Env, eval (.Call (.Attribute (.Call (.Name "super" p0) [] [] p1) "__init__" p2) [.JoinedStr jl pj] [] p3) env = (do
      let ov ← attributeBase (.Call (.Name "super" p0) [] [] p1) "__init__" env (eval (.Call (.Name "super" p0) [] [] p1) env)
      standAt p2.atName
      let (f, first) ← holding [ov] (getMethod ov "__init__" (pl env))
      callWith p3 f first (backTo p3 (starEach [.JoinedStr jl pj] env)) [])) :
    FnOk P w K mg base CX 1 f (PySem.W.ksFn name qual params (bodyT jl pj p0 p1 p2 p3 p4 p5 p6 p7 p8) scope dV kV doc pm an (.ref cda) ct cc) ["self", "most"] (spToo K C) := by
  refine ⟨fun vs H Q E ⟨e, m, h, _⟩ => by rw [h]; rfl, fun A outer s H args us vs Q E hr e0 hb r hsp => ?_⟩
  obtain ⟨e, m, rfl, hm, he, q⟩ := hsp
  obtain ⟨v0, v1, rfl, r0, r1⟩ : ∃ v0 v1, us = [v0, v1] ∧ RelV (.ref e) v0 ∧ RelV (.int m) v1 := by
    cases r with
    | cons a r =>
      cases r with
      | cons b r =>
        cases r
        exact ⟨_, _, rfl, a, b⟩
  obtain rfl : v0 = Value.ref e := r0
  have KX : K.In s.heap := e0.mod.kin.keeps fun b o z => (e0.bs b o z).1
  have lim : s.heap.NoLimit := e0.mod.nolimit.keeps fun b o z => (e0.bs b o z).1
  obtain ⟨nf, hnf⟩ : ∃ nf, nf = nfT name qual params (bodyT jl pj p0 p1 p2 p3 p4 p5 p6 p7 p8) scope cc cda := ⟨_, rfl⟩
  obtain ⟨ccl, ccd, ccs, hcell⟩ := F.cell
  refine ks_codeAny_call_defAt (body := bodyT jl pj p0 p1 p2 p3 p4 p5 p6 p7 p8) (binds := (["self", "most"] : List Str).zip [.ref e, v1]) hr.depth (KX _ _ lk) rfl lim (PySem.W.codeRec_of KX F.cd) rfl hb S.nocell (fun ⟨n, v⟩ hy => S.par n (List.of_mem_zip hy).1) (fun h1 hns kp => ?_) S.co S.gen S.kind
  have cb : ∃ o, base.get? cc = some o ∧ o.data = .cell (some (.ref C)) := ⟨_, e0.mod.kin _ _ hcell, rfl⟩
  obtain ⟨oc', hoc, hdc⟩ := cb
  have Cel : CellsAt [("__class__", cc)] ["__class__"] [none] s.heap H := by
    refine ⟨rfl, fun y c z => ?_, fun x y c a b => ?_, fun i y hi => ?_⟩
    · obtain ⟨_, rfl⟩ := one_look z
      exact ⟨(e0.bs _ _ hoc).2, _, oc', (e0.bs _ _ hoc).1, hdc⟩
    · rw [(one_look a).1, (one_look b).1]
    · cases i with
      | zero =>
        cases hi
        exact ⟨cc, by simp [List.lookup], fun v hv => by cases hv⟩
      | succ i => cases hi
  have I : Inv (ncx CX P w K mg base nT nf f A outer s H E) [] (startF nT [.ref e, .int m] [none]) H { s with heap := h1, toks := s.toks + ((["self", "most"] : List Str).zip [Value.ref e, v1]).length } := by
    rw [hnf]
    exact inv_startN (ps := ["self", "most"]) (fr := ["__class__"]) S hr.hd e0 rfl (.cons rfl (.cons r1 .nil)) Cel hns kp
  obtain ⟨tj', hpj, qj⟩ := hjs A outer s H E m hm
  rw [← hnf] at hpj
  have KX1 := I.kIn
  obtain ⟨ccl2, cdd, vs, ccs2, file, tf, hcode, hvs, hfile⟩ := F.code
  obtain ⟨ar, har, hara⟩ : ∃ ar, (params.posonlyargs ++ params.args).head? = some ar ∧ ar.arg = ("self" : Str) := by
    cases z : (params.posonlyargs ++ params.args).head? with
    | none => rw [z] at hpa; cases hpa
    | some ar => rw [z] at hpa; exact ⟨ar, rfl, Option.some.inj hpa⟩
  obtain ⟨cdD, hD⟩ := F.hD
  obtain ⟨oD, hD1, hD2⟩ : ∃ oD, h1.get? C = some oD ∧ oD.data = .cls cdD := by
    unfold PySem.W.clsIn at hD
    split at hD
    · rename_i c d cd' sl ho
      cases hD
      exact ⟨_, KX1 _ _ ho, rfl⟩
    · cases hD
  obtain ⟨t1, hoe⟩ := exo_at I.hok he
  have InI : PySem.W.InstAt h1 e { cls := .ref C, dict := none, data := .fields #[.ref t1, .none, .none, .none, .bool false, .none] } C none := ⟨hoe, rfl, rfl, trivial⟩
  have hkc : scope.names.lookup ("__class__" : Str) = some .free := S.frk _ (List.mem_cons_self ..)
  have hks : scope.names.lookup ("self" : Str) = some .local := S.par _ (List.mem_cons_self ..)
  have hkm : scope.names.lookup ("most" : Str) = some .local := S.par _ (List.mem_cons_of_mem _ (List.mem_cons_self ..))
  have hint : interactive (callEnv (PySem.W.ksFn name qual params (bodyT jl pj p0 p1 p2 p3 p4 p5 p6 p7 p8) scope dV kV doc pm an (.ref cda) ct cc) s.heap.objs.size f) = false := by
    have z := I.quiet
    rw [hnf] at z
    exact z
  have hsw : swapsWith (.Call (.Attribute (.Call (.Name "super" p0) [] [] p1) "__init__" p2) [.JoinedStr jl pj] [] p3) none p4.line (callEnv (PySem.W.ksFn name qual params (bodyT jl pj p0 p1 p2 p3 p4 p5 p6 p7 p8) scope dV kV doc pm an (.ref cda) ct cc) s.heap.objs.size f) = pure false := rfl
  refine ks_wpAt_execs_cons ?_
  refine ks_wpAt_Expr_any ?_ hint hsw
  refine ks_wpAt_MethodCall (pl := pl _) ?_ (hev _)
  refine ks_wpAt_super_base hsu hkc (by decide) rfl (KX1 _ _ lk) rfl har rfl (KX1 _ _ hcode) rfl hvs hfile F.top ?_
  obtain ⟨mb, b1, b2⟩ := I.mod.blt
  refine PySem.W.ks_loadName_global S.kind hsu (Calls.loadGlobal_builtin (e0.mod.glob.keeps I.bk) F.sup (b1.keeps I.bk) ((b2 "super" (by decide)).trans rfl) ⟨rfl, ?_⟩)
  refine wpAny_loadName_free S.kind hkc rfl ⟨oc', I.bk _ _ hoc, hdc⟩ ?_
  rw [hara]
  refine wpAny_loadName_local S.kind hks hns rfl ?_
  refine ks_wpAny_isType_cls hD1 hD2 ⟨rfl, ?_⟩
  refine ks_wpAny_call_super hD1 hD2 hoe rfl (fun c z => nomatch z) (PySem.W.looks_mroIn KX1 F.mro) (fun h2 e2 k2 => ?_)
  have I2 : Inv (ncx CX P w K mg base nT nf f A outer s H E) [] (startF nT [.ref e, .int m] [none]) H { s with heap := h2, toks := s.toks + ((["self", "most"] : List Str).zip [Value.ref e, v1]).length } := I.kept k2
  have hal := F.al
  unfold PySem.W.ks_superIn at hal
  rw [hD] at hal
  have InI2 : PySem.W.InstAt h2 e { cls := .ref C, dict := none, data := .fields #[.ref t1, .none, .none, .none, .bool false, .none] } C none := ⟨k2 _ _ hoe, rfl, rfl, trivial⟩
  have hIs : PySem.W.Looks (model P w) h2 (isInstance (.ref e) (.type "ValueError")) true := InI2.type.andThen (PySem.W.looks_subIn I2.kIn F.ve)
  have hne : e ≠ C := fun z => by
    rw [z, hD1] at hoe
    cases hoe
    cases hD2
  refine PySem.W.kxs_getMethod PySem.W.kxs_ValueError e2 (PySem.W.looks_opaque I2.kIn F.opq) (l₀ := cdD.mro) (fun A Q E s k q => wpAny_bind ((PySem.W.looks_clsIn I2.kIn hD) A _ E s k (wpAny_pure q))) rfl I2.kIn hal hIs hne (by decide) ?_
  have I3 := pin_more (t' := s.toks + ((["self", "most"] : List Str).zip [Value.ref e, v1]).length + 1) (u := h2.objs.size) (o := PySem.W.kxs_mw "ValueError.__init__" e) (h' := h2.push (PySem.W.kxs_mw "ValueError.__init__" e)) I2 (Nat.le_refl _) (fun b o z => Heap.get?_push_of_some _ z) (Heap.get?_push_size _ rfl) fun v z => nomatch z
  show wpAny _ _ (callWith p3 (.ref h2.objs.size) [] (backTo p3 (starEach [.JoinedStr jl pj] _)) []) _ _ _
  refine PySem.W.kxs_callWith (i := "ValueError.__init__") (x := e) (by rfl) (Calls.evalArgs_plain ?_)
  have pa := (pa_cons hpj pa_nil).run p3 _ _ _ _ (fun us G => ∃ z : Str, us = [.str z] ∧ G = H) I3 (qj e H _ fun z => ⟨z, rfl, rfl⟩)
  subst hnf
  refine thn pa fun us s1 ⟨vs, H1, I4, r4, z, ev, eH⟩ => ?_
  subst ev
  rw [eH] at I4
  have hu4 := (I4.pin _ (List.mem_append_right _ (List.mem_cons_self ..))).1
  refine ⟨hu4, ?_⟩
  refine wrap_call (us := us) F.ox I4 he hu4 (by rw [← r4.length]; simp [sizeLine_eq]) fun s5 I5 => ?_
  have I6 := pin_less I5
  refine wpAt_of_wpAny ?_
  have ps := pss_one (ps_ost (X := ncx CX P w K mg base nT (nfT name qual params (bodyT jl pj p0 p1 p2 p3 p4 p5 p6 p7 p8) scope cc cda) f A outer s H E) (o := .Name "self" p5) (f := "most") (p' := p6) (pos := p8) (pe_var (x := "self") (i := 0) rfl (.inl hks)) (pe_var (x := "most") (pos := p7) (i := 1) rfl (.inl hkm)) rfl)
  refine wpAny_mono (ps.run _ _ _ _ { nx := fun _ H' => Q .non H', rt := Q } I6 ?_) (fun fl s7 hs => ?_) fun e' s7 hs => hs
  · exact ⟨_, rfl, _, rfl, e, C, rfl, F.ox, hno, .inl ⟨he, fun dx n ne => q dx n ne⟩⟩
  · cases fl with
    | next =>
      obtain ⟨σ', H', J, q'⟩ := hs
      exact ⟨.non, H', J.os, J.bare, J.base, J.hok, rfl, q'⟩
    | ret u =>
      obtain ⟨v, σ', H', J, rv, q'⟩ := hs
      exact ⟨v, H', J.os, J.bare, J.base, J.hok, rv, q'⟩
    | brk =>
      obtain ⟨_, _, _, q'⟩ := hs
      exact q'.elim
    | cont =>
      obtain ⟨_, _, _, q'⟩ := hs
      exact q'.elim
end
end AsToo

set_option maxHeartbeats 4000000
set_option autoImplicit false
/-! such an exception raised. -/
namespace AsToo
open PySem PySem.Spec PyProof.Rows L2
open Evl (Ex)
structure Et (P : Program) (w : World) (K : PySem.W.Frag) (mg : Str → Option Value) (base : Heap) (x : Str) (C : Addr) : Prop where
  g : mg x = some (.ref C)
  ox : OexC K C
  fn : ∃ fI fd, PySem.W.findIn K (.ref C) "__init__" = some (some (.ref fI)) ∧ PySem.W.typeIn K (.ref fI) = some (.type "function") ∧ FnOk P w K mg base C8.CX0 1 fI fd ["self", "most"] (spToo K C) ∧ Binds K fd ["self", "most"] []
theorem heap_back {H : Hp} {a C d : Addr} {fs : List (Str × V)} (n : H a = none) (ne : d ≠ a) : upd (L2.del (upd (upd (upd H a (exo a C none)) d (exd d fs)) a (exo a C (some d))) a) d (.xd fs) = upd H d (.xd fs) := funext fun b => by
  by_cases h1 : b = d
  · rw [h1, upd_same, upd_same]
  · rw [upd_ne h1, upd_ne h1]
    by_cases h2 : b = a
    · rw [h2, del_same, n]
    · rw [del_ne h2, upd_ne h2, upd_ne h1, upd_ne h2]
/-- what is asked where it is made with the value v -/
def InT (K : PySem.W.Frag) (C : Addr) (R : Addr → Hp → Prop) (v : V) (H1 : Hp) : Prop := [v].length ≤ 1000 ∧ ∀ a, H1 a = none → spToo K C (.ref a :: ([v] ++ [])) (upd H1 a (exo a C none))
  (fun u H2 => u = .non ∧ ∃ (d : Addr) (fs : List (Str × V)), H2 a = some (exo a C (some d)) ∧ H2 d = some (exd d fs) ∧ H1 d = none ∧ R d (upd (L2.del H2 a) d (.xd fs))) (fun _ _ _ => False)
theorem inT_of {K : PySem.W.Frag} {C : Addr} {R : Addr → Hp → Prop} {m : Int} {H1 : Hp} (hm : m.natAbs.log2 < 100) (q : ∀ d, H1 d = none → R d (upd H1 d (.xd [("most", .int m)]))) : InT K C R (.int m) H1 := by
  refine ⟨by simp, fun a na => ⟨a, m, rfl, hm, upd_same, fun d nd ne => ⟨rfl, d, _, upd_same, (upd_ne ne).trans upd_same, (upd_ne ne).symm.trans nd, ?_⟩⟩⟩
  rw [heap_back na ne]
  exact q d ((upd_ne ne).symm.trans nd)
def tRaiseT (K : PySem.W.Frag) (C : Addr) (W : WX) (te : TE) : TS := fun _ σ H => te σ H fun v H1 => InT K C (fun d H' => W (.ref C) (some d) σ H') v H1
theorem ps_raiseT {X : Cx} {x : Str} {C : Addr} {W : WX} {e : Expr} {te : TE} {p pos pos2 : Pos} (c : Et X.prog X.w X.K X.mg X.base x C) (hr : Room 2 X.A) (hc : X.calm = true) (tk : Takes X W) (hg : Gl X x) (he : PE X e te)
    (hdb : (x == ("__debug__" : Str)) = false := by decide) (hs : starEach [e] X.env = (false, eval e X.env) :: starEach [] X.env := by rfl) : PS X (.Raise (some (.Call (.Name x p) [e] [] pos)) none pos2) (tRaiseT X.K C W te) := by
  obtain ⟨fI, fd, h1, h2, F1, hb⟩ := c.fn
  have mk : PMk X (.Call (.Name x p) [e] [] pos) (tMkO C (spToo X.K C) [] (tCons te tNil)) := pmk_oex c.ox h1 h2 F1 hr hb .nil (fun _ _ _ _ _ _ _ z => z.elim) hg c.g (pa_cons he pa_nil hs) hdb hs rfl
  have r := ps_raise (pos := pos2) hc tk mk
  exact ⟨fun pins s σ H D I h => r.run pins s σ H D I h⟩
end AsToo

set_option maxHeartbeats 4000000
set_option autoImplicit false
/-! deeds, done, copies as defs that raise. -/
namespace K14
open PySem PySem.Spec PyProof.Rows L2 AsSort AsKit AsToo
open Evl (Ex Ev EvT EvA)
section
variable {P : Program} {w : World} {K : PySem.W.Frag} {mg : Str → Option Value} {base : Heap}
/-- which of the three is wrong, and the class of its error -/
def Bad3 (CL CK CT : Addr) (l k t : PyData) (C : Addr) : Prop := (C = CL ∧ Tx l ∧ isLettersD l = false) ∨ (C = CK ∧ ∃ y, l = .str y ∧ Tx l ∧ isLetS y = true ∧ TxL k ∧ lotD y k = false) ∨
  (C = CT ∧ ∃ y, l = .str y ∧ Tx l ∧ isLetS y = true ∧ TxL k ∧ lotD y k = true ∧ Tx t ∧ withinD y 40 t = false)
theorem ck3_bad {CL CK CT C : Addr} {l k t : PyData} {H : Hp} {E : XK} {R : Hp → Prop} (b : Bad3 CL CK CT l k t C) (h : ∀ H', Ex H H' → E (.ref C) none H') : Ck3 CL CK CT l k t H E R := by
  rcases b with ⟨rfl, b1, b2⟩ | ⟨rfl, y, rfl, b1, b2, b3, b4⟩ | ⟨rfl, y, rfl, b1, b2, b3, b4, b5, b6⟩
  · refine ⟨b1, fun _ => h, fun y e1 e2 => ?_⟩
    subst e1
    rw [show isLettersD (.str y) = isLetS y from rfl, e2] at b2
    cases b2
  · refine ⟨b1, fun z => ?_, fun y' e1 e2 => ?_⟩
    · rw [show isLettersD (.str y) = isLetS y from rfl, b2] at z
      cases z
    · cases e1
      refine ⟨b3, fun _ => h, fun z => ?_⟩
      rw [b4] at z
      cases z
  · refine ⟨b1, fun z => ?_, fun y' e1 e2 => ?_⟩
    · rw [show isLettersD (.str y) = isLetS y from rfl, b2] at z
      cases z
    · cases e1
      refine ⟨b3, fun z => ?_, fun _ => ⟨b5, fun _ => h, fun z => ?_⟩⟩
      · rw [b4] at z
        cases z
      · rw [b6] at z
        cases z
theorem ck3_ok {CL CK CT : Addr} {l k t : PyData} {H : Hp} {E : XK} {R : Hp → Prop} (b : Okay l k t) (h : ∀ H', Ex H H' → R H') : Ck3 CL CK CT l k t H E R := by
  obtain ⟨y, z, ps, rfl, rfl, rfl, o0, o1, o2, o3, o4, o5, o6, o7⟩ := b
  have hl := lot_ok o5 o6 o7
  have hw : withinD y 40 (.str z) = true := by
    show withinS y z 40 = true
    unfold withinS
    rw [o4, decide_eq_true (by omega : (z.length : Int) ≤ 40)]
    rfl
  refine ⟨fun x e => by cases e; exact o1, fun q => ?_, fun y' e1 e2 => ?_⟩
  · rw [show isLettersD (.str y) = isLetS y from rfl, o2] at q
    cases q
  · cases e1
    refine ⟨tx_kinds fun p hp => ⟨(o7 p hp).1, (o7 p hp).2.1⟩, fun q => ?_, fun _ => ⟨fun x e => by cases e; omega, fun q => ?_, fun _ => h⟩⟩
    · rw [hl] at q
      cases q
    · rw [hw] at q
      cases q
/-- the wrong argument's error, or what is asked where all three are right -/
def Or3 (CL CK CT : Addr) (l k t : PyData) (H : Hp) (E : XK) (R : Prop) : Prop := (∃ C, Bad3 CL CK CT l k t C ∧ ∀ H', Ex H H' → E (.ref C) none H') ∨ (Okay l k t ∧ R)
def spXDeeds (K : PySem.W.Frag) (CL CK CT : Addr) : Sp := fun vs H Q E => ∃ l k t, DpAll K H vs [l, k, t] ∧ Or3 CL CK CT l k t H E (∀ v H', Ex H H' → Q v H')
/-- the deed: no deed | a deed, the text behind it too long | one that can be done -/
def DoneR (CD CM : Addr) (k t d : PyData) (H : Hp) (Q : VK) (E : XK) : Prop := SeqAt.shaped d = true ∧ ((∃ z, t = .str z ∧ deedD k z d = false ∧ ∀ H', Ex H H' → E (.ref CD) none H') ∨
  (∃ (ps : List (Str × Str)) (z : Str) (p : Nat) (kk : Str × Str), k = .tuple (ps.map kD) ∧ t = .str z ∧ d = dD p kk ∧ dD p kk ∈ deedsL ps z ∧ kk ∈ ps ∧
    ((40 < (bhS z p kk).length ∧ ∀ H' m, Ex H H' → H' m = none → E (.ref CM) (some m) (upd H' m (.xd [("most", .int 40)]))) ∨ ((bhS z p kk).length ≤ 40 ∧ ∀ H', Ex H H' → Q (.str (bhS z p kk)) H'))))
def spXDone (K : PySem.W.Frag) (CL CK CT CD CM : Addr) : Sp := fun vs H Q E => ∃ l k t d, DpAll K H vs [l, k, t, d] ∧ Or3 CL CK CT l k t H E (DoneR CD CM k t d H Q E)
theorem bhS_len {z : Str} {p : Nat} {kk : Str × Str} : (bhS z p kk).length ≤ z.length + kk.2.length + z.length := by
  have l1 := cut_len z none (some (p : Int))
  have l2 := cut_len z (some ((p + kk.1.length : Nat) : Int)) none
  unfold bhS
  rw [add_len, add_len]
  omega
def CopiesR (CM : Addr) (k t : PyData) (H : Hp) (Q : VK) (E : XK) : Prop := ∃ (ps : List (Str × Str)) (z : Str), k = .tuple (ps.map kD) ∧ t = .str z ∧
  (((∃ s ∈ behinds ps z, 40 < s.length) ∧ ∀ H' m, Ex H H' → H' m = none → E (.ref CM) (some m) (upd H' m (.xd [("most", .int 40)]))) ∨ ((∀ s ∈ behinds ps z, s.length ≤ 40) ∧ ∀ v H', Ex H H' → Q v H'))
def spXCopies (K : PySem.W.Frag) (CL CK CT CM : Addr) : Sp := fun vs H Q E => ∃ l k t, DpAll K H vs [l, k, t] ∧ Or3 CL CK CT l k t H E (CopiesR CM k t H Q E)
theorem puts_has : ∀ (ts : List Str) (kvs : Kvs) (s : Str), (s ∈ ts ∨ ∃ kv ∈ kvs, kv.1 = .inr s) → ∃ kv ∈ ts.foldl putT kvs, kv.1 = .inr s
  | [], _, _, h => h.elim (fun z => nomatch z) id
  | t :: ts, kvs, s, h => puts_has ts (putT kvs t) s (by
    have up : ∀ kv ∈ kvs, ∃ kw ∈ putT kvs t, kw.1 = kv.1 := fun kv hkv => by
      unfold putT putK
      split
      · by_cases e : kv.1 = .inr t
        · exact ⟨(kv.1, .bl true), List.mem_map.mpr ⟨kv, hkv, by rw [if_pos e]⟩, rfl⟩
        · exact ⟨kv, List.mem_map.mpr ⟨kv, hkv, by rw [if_neg e]⟩, rfl⟩
      · exact ⟨kv, List.mem_append_left _ hkv, rfl⟩
    have own : ∃ kw ∈ putT kvs t, kw.1 = .inr t := by
      unfold putT putK
      split
      · rename_i h1
        obtain ⟨kv, h2, h3⟩ := List.any_eq_true.mp h1
        have e := of_decide_eq_true h3
        exact ⟨(kv.1, .bl true), List.mem_map.mpr ⟨kv, h2, by rw [if_pos e]⟩, e⟩
      · exact ⟨(.inr t, .bl true), List.mem_append_right _ (List.mem_singleton.mpr rfl), rfl⟩
    rcases h with h | ⟨kv, h1, h2⟩
    · rcases List.mem_cons.mp h with rfl | h
      · exact .inr own
      · exact .inl h
    · obtain ⟨kw, a, b⟩ := up kv h1
      exact .inr ⟨kw, a, b.trans h2⟩)
theorem strs_all {ss : List Str} {s : Str} (h : s ∈ ss) : s ∈ strsOf (putsT ss) := by
  obtain ⟨kv, a, b⟩ := puts_has ss [] s (.inl h)
  exact List.mem_map.mpr ⟨kv, a, by rw [b]; rfl⟩
end
end K14

set_option maxHeartbeats 4000000
set_option autoImplicit false
namespace K14
open PySem PySem.Spec PyProof.Rows L2 AsSort AsKit
open Evl (Ex Ev EvT EvA)
abbrev sIsRow : Stmt := top 53
abbrev sIsReader : Stmt := top 54
section
variable {P : Program} {w : World} {K : PySem.W.Frag} {mg : Str → Option Value} {base : Heap}
abbrev nIsRow : List Str := ["value", "width", "many", "stand"]
theorem sc_is_row : FnScope nIsRow ["value", "width", "many"] (defScope sIsRow) := ⟨rfl, rfl, rfl, by decide +kernel, rfl, by decide +kernel, by decide +kernel⟩
def inR (n : Int) : PyData → Bool
  | .int i => decide ((0 : Int) ≤ i) && decide (i < n)
  | _ => false
def standD (n : Int) (d : PyData) : Bool := isIntD d && inR n d
def rowD (w n : Int) : PyData → Bool
  | .tuple ds => decide ((ds.length : Int) = w) && ds.all (standD n)
  | _ => false
theorem rowD_no {w n : Int} {d : PyData} (h : isD "tuple" d = false) : rowD w n d = false := by
  cases d with
  | tuple z => rw [isD_tup1] at h; cases h
  | _ => rfl
def rw3 : PyData → PyData → PyData → PyData
  | d, .int w, .int n => .bool (rowD w n d)
  | _, _, _ => .none
def isK (y T : String) : Bool := match kitB y T with
  | some b => b
  | none => false
theorem isD_K (T : String) (d : PyData) : isD T d = isK (tyName d) T := rfl
theorem int_of {d : PyData} (h : isIntD d = true) : ∃ i, d = .int i := by
  have k : ∀ y ∈ names7, y ≠ "int" → (isK y "int" && !isK y "bool") = false := by decide +kernel
  unfold isIntD at h
  rw [isD_K, isD_K] at h
  cases d with
  | int i => exact ⟨i, rfl⟩
  | _ => exact absurd h (by rw [k _ (ty7 _) (by show _ ≠ _; simp only [tyName]; decide)]; decide)
abbrev spIsRow (K : PySem.W.Frag) : Sp := spP K (fun ds => ∃ d w n, ds = [d, .int w, .int n] ∧ w ≤ 40000) (three rw3)
theorem c_is_row (D : Df K mg "is_row" sIsRow) (hb : Bl mg) (C1 : Cl P w K mg base 1 "is_integer" (spIsInteger K) []) : Cl P w K mg base 2 "is_row" (spIsRow K) [] := by
  refine cl_of D sc_is_row (len_sp fun ds ⟨d, a, b, h, _⟩ => by rw [h]; rfl) (fun _ _ _ _ _ _ us hl => match us, hl with | [_, _, _], _ => rfl) fun f cdv A outer s H vs Q E hr h => ?_
  obtain ⟨ds, hd, ⟨d, wd, n, rfl, hw⟩, q⟩ := h
  obtain ⟨v, v2, v3, rfl, h0, h1, h2⟩ := dp3 hd
  refine ⟨_, pss_cons (ps_if (pw_or (pt_not (pt_val (pe_isi (x := "tuple") (T := "tuple") hb (pv 0)))) (pw_or1 (pt_cmpR op_ne (pe_lenQ hb (pv 0)) (pv 1) (nomark _)))).pt (pss_one (ps_ret pe_bl)) pss_nil)
    (pss_one (ps_ret (pe_allL rfl hb (pe_lcn 3 sc_is_row.nd (pi_tup (pv 0)) (fun _ _ _ _ _ => pts_nil) (fun _ _ _ _ _ => pe_and (C8.pe_c C1 hr (by decide) (by rfl) (pa_cons (pv 3) pa_nil)) (pe_one (pe_chain op_le op_lt pe_int (pv 3) (pv 2)))) (fun _ _ _ _ _ => pg_name sc_is_row.nd rfl (.inl rfl)) (blkOk_by (N := nIsRow) (sc := defScope sIsRow) (own := [("stand", 3)]) (by decide +kernel)) rfl)))), ?_⟩
  have a0 : At K (start nIsRow [v, v2, v3]) H 0 d := ⟨_, rfl, h0⟩
  have a1 : At K (start nIsRow [v, v2, v3]) H 1 (.int wd) := ⟨_, rfl, h1⟩
  have a2 : At K (start nIsRow [v, v2, v3]) H 2 (.int n) := ⟨_, rfl, h2⟩
  by_cases hs : isD "tuple" d = true
  · obtain ⟨es, rfl⟩ := isD_tup hs
    refine Evl.q_when (b := !(isD "tuple" (.tuple es)) || !decide ((es.length : Int) = wd)) (Evl.et_or (Evl.et_not (t_ofB (d_isD (d_var a0)))) fun _ => t_ofD (d_neI (d_lenT (d_var a0)) (d_var a1))) (fun hb1 H1 e1 => AsKit.s_ret (K := K) d_bl fun u H2 e2 hu => q u H2 (e1.trans e2) ?_) fun hb1 H1 e1 => ?_
    · rw [hs, Bool.not_true, Bool.false_or] at hb1
      show Dp K H2 u (.bool (decide ((es.length : Int) = wd) && es.all (standD n)))
      rw [(Bool.not_eq_true' _).mp hb1, Bool.false_and]
      exact hu
    · rw [hs, Bool.not_true, Bool.false_or] at hb1
      have hl2 : decide ((es.length : Int) = wd) = true := (Bool.not_eq_false' _).mp hb1
      have hl : es.length ≤ 40000 := by have := of_decide_eq_true hl2; omega
      have e : ((es.filter fun _ => true).map fun d => PyData.bool (standD n d)) = (es.map (standD n)).map PyData.bool := by
        rw [List.filter_eq_self.mpr fun _ _ => rfl, List.map_map]
        rfl
      refine AsKit.s_ret (K := K) (d_eqTo (d_all (bs := es.map (standD n)) (d_eqTo (d_lcT (fun _ => true) (fun d => PyData.bool (standD n d)) (d_var (a0.mono e1)) (by omega) (fun _ _ _ => rfl) fun d hd x H2 e2 hx k hk => hk _ rfl (fun H3 e3 Q q => q H3 (Ex.refl H3)) fun _ => ?_) (congrArg PyData.list e))) (congrArg PyData.bool List.all_map)) fun u H2 e2 hu => q u H2 (e1.trans e2) ?_
      · have g3 : At K ((wipe (start nIsRow [v, v2, v3]) [3]).set 3 (some x)) H2 3 d := ⟨_, rfl, hx⟩
        refine d_and (a := isIntD d) (b := inR n d) (d_call (ds_cons (d_var g3) ds_nil) rfl) fun hi => ?_
        obtain ⟨i, rfl⟩ := int_of hi
        exact d_chI (g1 := fun i j => decide (i ≤ j)) (g2 := fun i j => decide (i < j)) d_int (d_var g3) fun _ => d_var ⟨_, rfl, dp_ex (e1.trans e2) h2⟩
      · show Dp K H2 u (.bool (decide ((es.length : Int) = wd) && es.all (standD n)))
        rw [hl2, Bool.true_and]
        exact hu
  · have hs : isD "tuple" d = false := by simpa using hs
    refine Evl.q_when (b := !(isD "tuple" d) || false) (Evl.et_or (Evl.et_not (t_ofB (d_isD (d_var a0)))) fun h => by rw [hs] at h; cases h) (fun hb1 H1 e1 => AsKit.s_ret (K := K) d_bl fun u H2 e2 hu => q u H2 (e1.trans e2) ?_) fun hb1 => by rw [hs] at hb1; cases hb1
    show Dp K H2 u (.bool (rowD wd n d))
    rw [rowD_no hs]
    exact hu
abbrev nIsReader : List Str := ["value", "letters", "rows", "yes", "row", "said"]
theorem sc_is_reader : FnScope nIsReader ["value"] (defScope sIsReader) := ⟨rfl, rfl, rfl, by decide +kernel, rfl, by decide +kernel, by decide +kernel⟩
def okRows (y rows yes : PyData) : Bool := match y, rows, yes with
  | .str z, .tuple rs, .tuple ys => ((decide ((1 : Int) ≤ rs.length) && decide ((rs.length : Int) ≤ 200)) && decide ((ys.length : Int) = rs.length)) && (rs.all (rowD z.length rs.length) && ys.all (isD "bool"))
  | _, _, _ => false
def readerL : List PyData → Bool
  | [y, rows, yes] => isLettersD y && (isD "tuple" rows && (isD "tuple" yes && okRows y rows yes))
  | _ => false
def readerD : PyData → Bool
  | .tuple ds => readerL ds
  | _ => false
theorem readerD_no {d : PyData} (h : isD "tuple" d = false) : readerD d = false := by
  cases d with
  | tuple z => rw [isD_tup1] at h; cases h
  | _ => rfl
theorem readerL_len : ∀ {ds : List PyData}, ds.length ≠ 3 → readerL ds = false
  | [], _ => rfl
  | [_], _ => rfl
  | [_, _], _ => rfl
  | [_, _, _], h => (h rfl).elim
  | _ :: _ :: _ :: _ :: _, _ => rfl
theorem lettersD_str {d : PyData} (h : isLettersD d = true) : ∃ z, d = .str z ∧ z.length ≤ 4 := by
  cases d with
  | str z =>
    have h2 : isLetS z = true := h
    unfold isLetS at h2
    simp only [Bool.and_eq_true, decide_eq_true_eq] at h2
    exact ⟨z, rfl, by omega⟩
  | _ => cases h
/-- the texts in it are of a length that can be told -/
def TxR (d : PyData) : Prop := ∀ ds, d = .tuple ds → ∀ e ∈ ds, Tx e
abbrev spIsReader (K : PySem.W.Frag) : Sp := spP K (fun ds => ∃ d, ds = [d] ∧ TxR d) (one fun d => .bool (readerD d))
theorem c_is_reader (D : Df K mg "is_reader" sIsReader) (hb : Bl mg) (g200 : Gn mg "MOST_STANDS" 200) (C1 : Cl P w K mg base 1 "is_letters" (spIsLetters K) []) (C2 : Cl P w K mg base 2 "is_row" (spIsRow K) []) : Cl P w K mg base 3 "is_reader" (spIsReader K) [] := by
  refine cl_of D sc_is_reader (len_sp fun ds ⟨d, h, _⟩ => by rw [h]; rfl) (fun _ _ _ _ _ _ us hl => match us, hl with | [_], _ => rfl) fun f cdv A outer s H vs Q E hr h => ?_
  obtain ⟨ds, hd, ⟨d, rfl, ht⟩, q⟩ := h
  obtain ⟨v, rfl, h0⟩ := dp1 hd
  refine ⟨_, pss_cons (ps_if (pw_or (pt_not (pt_val (pe_isi (x := "tuple") (T := "tuple") hb (pv 0)))) (pw_or1 (pt_cmpR op_ne (pe_lenQ hb (pv 0)) pe_int (nomark _)))).pt (pss_one (ps_ret pe_bl)) pss_nil)
    (pss_cons (ps_asg (pv 0) (pg_tup rfl (pgs_cons (pg_name (i := 1) sc_is_reader.nd rfl (.inr rfl)) (pgs_cons (pg_name (i := 2) sc_is_reader.nd rfl (.inr rfl)) (pgs_cons (pg_name (i := 3) sc_is_reader.nd rfl (.inl rfl)) pgs_nil)))))
    (pss_cons (ps_if (pw_or (pt_not (pt_val (C8.pe_c C1 hr (by decide) (by rfl) (pa_cons (pv 1) pa_nil)))) (pw_or (pt_not (pt_val (pe_isi (x := "tuple") (T := "tuple") hb (pv 2)))) (pw_or1 (pt_not (pt_val (pe_isi (x := "tuple") (T := "tuple") hb (pv 3))))))).pt (pss_one (ps_ret pe_bl)) pss_nil)
    (pss_cons (ps_if (pw_or (pt_not (pt_chain op_le op_le pe_int (pe_lenQ hb (pv 2)) (pe_gn g200))) (pw_or1 (pt_cmpR op_ne (pe_lenQ hb (pv 3)) (pe_lenQ hb (pv 2)) (nomark _)))).pt (pss_one (ps_ret pe_bl)) pss_nil)
    (pss_cons (ps_if (pt_not (pt_val (pe_allL rfl hb (pe_lcn 4 sc_is_reader.nd (pi_tup (pv 2)) (fun _ _ _ _ _ => pts_nil) (fun _ _ _ _ _ => C8.pe_c C2 hr (by decide) (by rfl) (pa_cons (pv 4) (pa_cons (pe_lenS hb (pv 1)) (pa_cons (pe_callB (r := rLenQ K) call_len_seq (by rfl) (hb _ (by decide +kernel)) (by decide +kernel) (pa_cons (pv 2) pa_nil)) pa_nil)))) (fun _ _ _ _ _ => pg_name sc_is_reader.nd rfl (.inl rfl)) (blkOk_by (N := nIsReader) (sc := defScope sIsReader) (own := [("row", 4)]) (by decide +kernel)) rfl)))) (pss_one (ps_ret pe_bl)) pss_nil)
    (pss_one (ps_ret (pe_allL rfl hb (pe_lcn 5 sc_is_reader.nd (pi_tup (pv 3)) (fun _ _ _ _ _ => pts_nil) (fun _ _ _ _ _ => pe_callB (r := rIsi K) call_isi (by rfl) (hb _ (by decide +kernel)) (by decide +kernel) (pa_cons (pv 5) (pa_cons (pe_bltn (v := .ty "bool") (u := .type "bool") (by rfl) (hb _ (by decide +kernel)) (by decide +kernel) rfl) pa_nil))) (fun _ _ _ _ _ => pg_name sc_is_reader.nd rfl (.inl rfl)) (blkOk_by (N := nIsReader) (sc := defScope sIsReader) (own := [("said", 5)]) (by decide +kernel)) rfl)))))))), ?_⟩
  have a0 : At K (start nIsReader [v]) H 0 d := ⟨_, rfl, h0⟩
  by_cases hs : isD "tuple" d = true
  · obtain ⟨es, rfl⟩ := isD_tup hs
    refine Evl.q_when (b := !(isD "tuple" (.tuple es)) || !decide ((es.length : Int) = 3)) (Evl.et_or (Evl.et_not (t_ofB (d_isD (d_var a0)))) fun _ => t_ofD (d_neI (d_lenT (d_var a0)) d_int)) (fun hb1 H1 e1 => AsKit.s_ret (K := K) d_bl fun u H2 e2 hu => q u H2 (e1.trans e2) ?_) fun hb1 H1 e1 => ?_
    · rw [hs, Bool.not_true, Bool.false_or] at hb1
      have hl : es.length ≠ 3 := fun z => by rw [z] at hb1; cases hb1
      show Dp K H2 u (.bool (readerL es))
      rw [readerL_len hl]
      exact hu
    · rw [hs, Bool.not_true, Bool.false_or] at hb1
      have hl : es.length = 3 := by
        have z := of_decide_eq_true ((Bool.not_eq_false' _).mp hb1)
        omega
      obtain ⟨dy, dr, de, rfl⟩ := three_of hl
      have ty : Tx dy := ht _ rfl dy (by simp)
      refine ⟨v, rfl, g_three (dp_ex e1 h0) fun va vb vc ha hb2 hc => ?_⟩
      have b1 : ∀ {x4 x5 : Option V} {G : Hp}, Ex H1 G → At K [some v, some va, some vb, some vc, x4, x5] G 1 dy := fun e => ⟨_, rfl, dp_ex e ha⟩
      have b2 : ∀ {x4 x5 : Option V} {G : Hp}, Ex H1 G → At K [some v, some va, some vb, some vc, x4, x5] G 2 dr := fun e => ⟨_, rfl, dp_ex e hb2⟩
      have b3 : ∀ {x4 x5 : Option V} {G : Hp}, Ex H1 G → At K [some v, some va, some vb, some vc, x4, x5] G 3 de := fun e => ⟨_, rfl, dp_ex e hc⟩
      dsimp only
      refine Evl.q_when (b := !(isLettersD dy) || (!(isD "tuple" dr) || !(isD "tuple" de))) (Evl.et_or (Evl.et_not (t_ofB (K := K) (d_call (ds_cons (d_var (b1 (Ex.refl H1))) ds_nil) ⟨dy, rfl, ty⟩))) fun _ => Evl.et_or (Evl.et_not (t_ofB (d_isD (d_var (b2 (Ex.refl H1)))))) fun _ => Evl.et_not (t_ofB (d_isD (d_var (b3 (Ex.refl H1))))))
        (fun hb3 H2 e2 => AsKit.s_ret (K := K) d_bl fun u H3 e3 hu => q u H3 ((e1.trans e2).trans e3) ?_) fun hb3 H2 e2 => ?_
      · show Dp K H3 u (.bool (isLettersD dy && (isD "tuple" dr && (isD "tuple" de && okRows dy dr de))))
        have z : (isLettersD dy && (isD "tuple" dr && (isD "tuple" de && okRows dy dr de))) = false := by
          cases x : isLettersD dy with
          | false => rfl
          | true =>
            cases x2 : isD "tuple" dr with
            | false => rfl
            | true =>
              cases x3 : isD "tuple" de with
              | false => rfl
              | true => rw [x, x2, x3] at hb3; cases hb3
        rw [z]
        exact hu
      · have z : isLettersD dy = true ∧ isD "tuple" dr = true ∧ isD "tuple" de = true := by
          simp only [Bool.or_eq_false_iff, Bool.not_eq_false'] at hb3
          exact ⟨hb3.1, hb3.2.1, hb3.2.2⟩
        obtain ⟨z1, z2, z3⟩ := z
        obtain ⟨y, rfl, hy⟩ := lettersD_str z1
        obtain ⟨rs, rfl⟩ := isD_tup z2
        obtain ⟨ys, rfl⟩ := isD_tup z3
        have fin : ∀ u G, Ex H G → Dp K G u (.bool (okRows (.str y) (.tuple rs) (.tuple ys))) → Q u G := fun u G e hu => q u G e (by
          show Dp K G u (.bool (isLettersD (.str y) && (isD "tuple" (.tuple rs) && (isD "tuple" (.tuple ys) && okRows (.str y) (.tuple rs) (.tuple ys)))))
          rw [z1, z2, z3, Bool.true_and, Bool.true_and, Bool.true_and]
          exact hu)
        refine Evl.q_when (b := !(decide ((1 : Int) ≤ rs.length) && decide ((rs.length : Int) ≤ 200)) || !decide ((ys.length : Int) = rs.length)) (Evl.et_or (Evl.et_not (t_ofD (K := K) (d_chI (g1 := fun i j => decide (i ≤ j)) (g2 := fun i j => decide (i ≤ j)) d_int (d_lenT (d_var (b2 e2))) fun _ => d_int))) fun _ => t_ofD (d_neI (d_lenT (d_var (b3 e2))) (d_lenT (d_var (b2 e2)))))
          (fun hb4 H3 e3 => AsKit.s_ret (K := K) d_bl fun u H4 e4 hu => fin u H4 (((e1.trans e2).trans e3).trans e4) ?_) fun hb4 H3 e3 => ?_
        · show Dp K H4 u (.bool (((decide ((1 : Int) ≤ rs.length) && decide ((rs.length : Int) ≤ 200)) && decide ((ys.length : Int) = rs.length)) && (rs.all (rowD y.length rs.length) && ys.all (isD "bool"))))
          have z : ((decide ((1 : Int) ≤ rs.length) && decide ((rs.length : Int) ≤ 200)) && decide ((ys.length : Int) = rs.length)) = false := by
            rw [← Bool.not_and] at hb4
            exact (Bool.not_eq_true' _).mp hb4
          rw [z, Bool.false_and]
          exact hu
        · have z : ((decide ((1 : Int) ≤ rs.length) && decide ((rs.length : Int) ≤ 200)) && decide ((ys.length : Int) = rs.length)) = true := by
            rw [← Bool.not_and] at hb4
            exact (Bool.not_eq_false' _).mp hb4
          have hlr : rs.length ≤ 200 ∧ ys.length ≤ 200 := by
            simp only [Bool.and_eq_true, decide_eq_true_eq] at z
            omega
          have er : ((rs.filter fun _ => true).map fun d => PyData.bool (rowD y.length rs.length d)) = (rs.map (rowD y.length rs.length)).map PyData.bool := by
            rw [List.filter_eq_self.mpr fun _ _ => rfl, List.map_map]
            rfl
          have ey : ((ys.filter fun _ => true).map fun d => PyData.bool (isD "bool" d)) = (ys.map (isD "bool")).map PyData.bool := by
            rw [List.filter_eq_self.mpr fun _ _ => rfl, List.map_map]
            rfl
          have e13 := e2.trans e3
          refine Evl.q_when (b := !(rs.all (rowD y.length rs.length))) (Evl.et_not (t_ofB (K := K) (d_eqTo (d_all (bs := rs.map (rowD y.length rs.length)) (d_eqTo (d_lcT (fun _ => true) (fun d => PyData.bool (rowD y.length rs.length d)) (d_var (b2 e13)) (by omega) (fun _ _ _ => rfl) fun d hd x G eG hx k hk => hk _ rfl (fun H3 e3 Q q => q H3 (Ex.refl H3)) fun _ => ?_) (congrArg PyData.list er))) (congrArg PyData.bool List.all_map))))
            (fun hb5 H4 e4 => AsKit.s_ret (K := K) d_bl fun u H5 e5 hu => fin u H5 ((((e1.trans e2).trans e3).trans e4).trans e5) ?_) fun hb5 H4 e4 => ?_
          · exact d_call (ds_cons (d_var ⟨_, rfl, hx⟩) (ds_cons (d_lenS (d_var (b1 (e13.trans eG))) (by omega)) (ds_cons (d_lenT (d_var (b2 (e13.trans eG)))) ds_nil))) ⟨d, _, _, rfl, by omega⟩
          · show Dp K H5 u (.bool (((decide ((1 : Int) ≤ rs.length) && decide ((rs.length : Int) ≤ 200)) && decide ((ys.length : Int) = rs.length)) && (rs.all (rowD y.length rs.length) && ys.all (isD "bool"))))
            rw [(Bool.not_eq_true' _).mp hb5, Bool.false_and, Bool.and_false]
            exact hu
          · refine AsKit.s_ret (K := K) (d_eqTo (d_all (bs := ys.map (isD "bool")) (d_eqTo (d_lcT (fun _ => true) (fun d => PyData.bool (isD "bool" d)) (d_var (b3 (e13.trans e4))) (by omega) (fun _ _ _ => rfl) fun d hd x G eG hx k hk => hk _ rfl (fun H3 e3 Q q => q H3 (Ex.refl H3)) fun _ => d_isD (d_var ⟨_, rfl, hx⟩)) (congrArg PyData.list ey))) (congrArg PyData.bool List.all_map)) fun u H5 e5 hu => fin u H5 ((((e1.trans e2).trans e3).trans e4).trans e5) ?_
            show Dp K H5 u (.bool (((decide ((1 : Int) ≤ rs.length) && decide ((rs.length : Int) ≤ 200)) && decide ((ys.length : Int) = rs.length)) && (rs.all (rowD y.length rs.length) && ys.all (isD "bool"))))
            rw [z, (Bool.not_eq_false' _).mp hb5, Bool.true_and, Bool.true_and]
            exact hu
  · have hs : isD "tuple" d = false := by simpa using hs
    refine Evl.q_when (b := !(isD "tuple" d) || false) (Evl.et_or (Evl.et_not (t_ofB (d_isD (d_var a0)))) fun h => by rw [hs] at h; cases h) (fun hb1 H1 e1 => AsKit.s_ret (K := K) d_bl fun u H2 e2 hu => q u H2 (e1.trans e2) ?_) fun hb1 => by rw [hs] at hb1; cases hb1
    show Dp K H2 u (.bool (readerD d))
    rw [readerD_no hs]
    exact hu
end
end K14

set_option maxHeartbeats 4000000
set_option autoImplicit false
/-! a walk over a text's signs; the place of a sign. -/
namespace AsKit
open PySem PySem.Spec PyProof.Rows L2 AsSort
open Evl (Ex Ev EvT EvA)
theorem for_signs {y : Str} {g : TG} {tb : TS} {D : Ends} {σ : L2.St} {H : Hp} (Pv : Nat → L2.St → Hp → Prop) (h0 : Pv 0 σ H)
    (hs : ∀ i c σ H, y.cps.toList[i]? = some c → Pv i σ H → g (.str ⟨#[c]⟩) σ H fun σ2 H2 => tb { D with nx := Pv (i + 1), ct := Pv (i + 1), bk := D.nx } σ2 H2) (hd : ∀ σ H, Pv y.cps.toList.length σ H → D.nx σ H) :
    ∃ W : Nat → Nat → L2.St → Hp → Prop, (∃ m, W 0 m σ H) ∧ ∀ i m σ H, W i m σ H →
      ((Its y).stop i H ∧ D.nx σ H) ∨ ((Its y).go i H ∧ ∃ N : L2.St → Hp → Prop, (∀ σ' H', N σ' H' → ∃ m', m' < m ∧ W (i + 1) m' σ' H') ∧ ∀ x H', (Its y).yld i H x H' → g x σ H' fun σ2 H2 => tb { D with nx := N, ct := N, bk := D.nx } σ2 H2) := by
  have hsz : y.cps.toList.length = y.cps.size := Array.length_toList
  refine ⟨fun i m σ H => m = y.cps.toList.length - i ∧ i ≤ y.cps.toList.length ∧ Pv i σ H, ⟨_, rfl, Nat.zero_le _, h0⟩, ?_⟩
  rintro i m σ H ⟨rfl, hi, p⟩
  by_cases hlt : i < y.cps.toList.length
  · refine .inr ⟨by show i < y.cps.size; omega, Pv (i + 1), fun σ' H' p' => ⟨y.cps.toList.length - (i + 1), by omega, rfl, hlt, p'⟩, fun x H' z => ?_⟩
    obtain ⟨e, c, hc, rfl⟩ := z
    subst e
    exact hs i c σ _ (by rw [Array.getElem?_toList]; exact hc) p
  · have e : i = y.cps.toList.length := by omega
    subst e
    exact .inl ⟨by show y.cps.size ≤ _; omega, hd σ H p⟩
/-- the place of c -/
theorem index0_one {z : Str} {c k : Nat} (h : z.cps.toList[k]? = some c) (hno : ∀ j, j < k → z.cps.toList[j]? ≠ some c) : Txt.index0 z ⟨#[c]⟩ = some k := by
  have hm : ∀ i, (i + (⟨#[c]⟩ : Str).length ≤ z.length ∧ Builtin.Str.subAt z ⟨#[c]⟩ i = true) ↔ z.cps.toList[i]? = some c := fun i => StrLaws.subAt_one z c i
  unfold Txt.index0
  rcases StrLaws.occ_head z ⟨#[c]⟩ 1 (Nat.le_refl _) with ⟨_, h1⟩ | ⟨i, r, h1, h2, h3⟩
  · exact (h1 k ((hm k).mpr h)).elim
  · rw [h1]
    have h4 : z.cps.toList[i]? = some c := (hm i).mp h2
    have e : i = k := by
      rcases Nat.lt_trichotomy i k with l | l | l
      · exact (hno i l h4).elim
      · exact l
      · exact (h3 k l ((hm k).mpr h)).elim
    rw [e]
    rfl
/-- s.index(c), c one of s's signs -/
def rIdx : L2.St → V → List V → Hp → VK → Prop := rIndexX fun _ _ _ _ => False
theorem d_index {K : PySem.W.Frag} {σ : L2.St} {H : Hp} {to te : TE} {z : Str} {c k : Nat} (h : EvD K to σ H (.str z)) (h2 : EvD K te σ H (.str ⟨#[c]⟩)) (hk : z.cps.toList[k]? = some c) (hno : ∀ j, j < k → z.cps.toList[j]? ≠ some c) :
    EvD K (tBMS K "str" rIdx to (tCons te tNil)) σ H (.int (k : Int)) := fun H1 a Q q =>
  h H1 a _ fun v H2 x hd => by
    cases hd
    have e := index0_one hk hno
    refine ⟨?_, h2 H2 (a.trans x) _ fun w H3 y he => ?_⟩
    · exact rfl
    · cases he
      refine ⟨z, ⟨#[c]⟩, rfl, rfl, fun k' hk' => ?_, fun n => by rw [e] at n; cases n⟩
      rw [e] at hk'
      cases hk'
      exact q _ H3 (x.trans y) (.int _)
theorem pe_index {X : Cx} {o e : Expr} {to te : TE} {apos cpos : Pos} (hc : X.calm = true) (ho : PE X o to) (he : PE X e te) (hbase : attributeBase o "index" X.env (eval o X.env) = eval o X.env := by rfl)
    (hfew : ((backTo cpos (starEach [e] X.env)).all (fun x => !x.1) && (backToKw cpos (keywordEach [] X.env)).all (fun x => x.1.isSome) && decide ([e].length + ([] : List Keyword).length + (if ([] : List Keyword).isEmpty then 0 else 1) < 30)) = true := by rfl)
    (hline : (apos.endLine == cpos.line) = true := by rfl) (hs : starEach [e] X.env = (false, eval e X.env) :: starEach [] X.env := by rfl) (hplain : (backTo cpos (starEach [] X.env)).any (·.1) = false := by rfl) :
    PE X (.Call (.Attribute o "index" apos) [e] [] cpos) (tBMS X.K "str" rIdx to (tCons te tNil)) :=
  pe_bmS PySem.F.plainAttrs_str PySem.F.slot_str_index PySem.F.type_str_index (mt_indexX hc takes_none5) ho (pa_cons he pa_nil hs) hbase hfew hline hs hplain
end AsKit

set_option maxHeartbeats 4000000
set_option autoImplicit false
/-! readers as machines; the stand behind a text. -/
namespace K14
open PySem PySem.Spec PyProof.Rows L2 AsSort AsKit
open Evl (Ex Ev EvT EvA)
/-- a reader -/
structure Mach where
  y : Str
  rs : List (List Nat)
  ys : List Bool
def rowP (r : List Nat) : PyData := .tuple (r.map fun (n : Nat) => PyData.int n)
def Mach.d (M : Mach) : PyData := .tuple [.str M.y, .tuple (M.rs.map rowP), .tuple (M.ys.map PyData.bool)]
structure Mach.Ok (M : Mach) : Prop where
  ls : isLetS M.y = true
  yl : M.y.length ≤ 4
  n1 : 1 ≤ M.rs.length
  n2 : M.rs.length ≤ 200
  ye : M.ys.length = M.rs.length
  row : ∀ r ∈ M.rs, r.length = M.y.length ∧ ∀ s ∈ r, s < M.rs.length
def pos (c : Nat) : List Nat → Nat
  | [] => 0
  | x :: r => if x = c then 0 else pos c r + 1
theorem pos_at {c : Nat} : ∀ {l : List Nat}, c ∈ l → l[pos c l]? = some c
  | [], h => nomatch h
  | x :: r, h => by
    unfold pos
    by_cases e : x = c
    · rw [if_pos e, e]
      rfl
    · rw [if_neg e]
      rcases List.mem_cons.mp h with z | z
      · exact (e z.symm).elim
      · exact pos_at z
theorem pos_first {c : Nat} : ∀ {l : List Nat} (j : Nat), j < pos c l → l[j]? ≠ some c
  | [], j, h => nomatch h
  | x :: r, j, h => by
    unfold pos at h
    by_cases e : x = c
    · rw [if_pos e] at h
      exact (nomatch h)
    · rw [if_neg e] at h
      cases j with
      | zero => exact fun z => e (Option.some.inj z)
      | succ j => exact pos_first (l := r) j (by omega)
theorem pos_lt {c : Nat} {l : List Nat} (h : c ∈ l) : pos c l < l.length := (List.getElem?_eq_some_iff.mp (pos_at h)).1
def Mach.step (M : Mach) (s c : Nat) : Nat := (M.rs.getD s []).getD (pos c M.y.cps.toList) 0
def Mach.led (M : Mach) (s : Nat) (cs : List Nat) : Nat := cs.foldl M.step s
theorem step_ok {M : Mach} (h : M.Ok) {s c : Nat} (hs : s < M.rs.length) (hc : c ∈ M.y.cps.toList) : ∃ r, M.rs[s]? = some r ∧ r[pos c M.y.cps.toList]? = some (M.step s c) ∧ M.step s c < M.rs.length := by
  have h1 : M.rs[s]? = some M.rs[s] := List.getElem?_eq_getElem hs
  obtain ⟨h2, h3⟩ := h.row _ (List.getElem_mem hs)
  have hl : M.y.cps.toList.length = M.y.length := Array.length_toList
  have hp : pos c M.y.cps.toList < (M.rs[s]).length := by have := pos_lt hc; omega
  have h4 : (M.rs[s])[pos c M.y.cps.toList]? = some (M.rs[s])[pos c M.y.cps.toList] := List.getElem?_eq_getElem hp
  have e : M.step s c = (M.rs[s])[pos c M.y.cps.toList] := by
    unfold Mach.step
    have e1 : M.rs.getD s [] = M.rs[s] := by rw [List.getD_eq_getElem?_getD, h1, Option.getD_some]
    rw [e1, List.getD_eq_getElem?_getD, h4, Option.getD_some]
  refine ⟨_, h1, by rw [e]; exact h4, ?_⟩
  rw [e]
  exact h3 _ (List.getElem_mem hp)
theorem led_lt {M : Mach} (h : M.Ok) : ∀ (cs : List Nat) (s : Nat), s < M.rs.length → (∀ c ∈ cs, c ∈ M.y.cps.toList) → M.led s cs < M.rs.length
  | [], _, hs, _ => hs
  | c :: cs, s, hs, hc => led_lt h cs (M.step s c) (step_ok h hs (hc c (List.mem_cons_self ..))).choose_spec.2.2 fun x hx => hc x (List.mem_cons_of_mem _ hx)
section
variable {P : Program} {w : World} {K : PySem.W.Frag} {mg : Str → Option Value} {base : Heap}
abbrev nStandFrom : List Str := ["reader", "stand", "text", "letters", "rows", "_", "now", "letter"]
def spStandFrom (K : PySem.W.Frag) : Sp := fun vs H Q _ => ∃ (M : Mach) (s : Nat) (z : Str), DpAll K H vs [M.d, .int (s : Int), .str z] ∧ M.Ok ∧ s < M.rs.length ∧ allIn M.y z = true ∧ ∀ H', Ex H H' → Q (.int (M.led s z.cps.toList : Nat)) H'
def spStandBehind (K : PySem.W.Frag) : Sp := fun vs H Q _ => ∃ (M : Mach) (z : Str), DpAll K H vs [M.d, .str z] ∧ M.Ok ∧ allIn M.y z = true ∧ ∀ H', Ex H H' → Q (.int (M.led 0 z.cps.toList : Nat)) H'
end
end K14

set_option maxHeartbeats 4000000
set_option autoImplicit false
/-! verdicts of right readers. -/
namespace K14
open PySem PySem.Spec PyProof.Rows L2 AsSort AsKit
open Evl (Ex Ev EvT EvA)
theorem stand_int {n : Int} {i : Nat} (h : (i : Int) < n) : standD n (.int (i : Int)) = true := by
  have k : isIntD (.int (i : Int)) = true := (by decide +kernel : (isK "int" "int" && !isK "int" "bool") = true)
  unfold standD
  rw [k, Bool.true_and]
  show (decide ((0 : Int) ≤ (i : Int)) && decide ((i : Int) < n)) = true
  rw [decide_eq_true (by omega : (0 : Int) ≤ (i : Int)), decide_eq_true h]
  rfl
theorem reader_ok {M : Mach} (h : M.Ok) : readerD M.d = true := by
  show (isLettersD (.str M.y) && (isD "tuple" (.tuple (M.rs.map rowP)) && (isD "tuple" (.tuple (M.ys.map PyData.bool)) && okRows (.str M.y) (.tuple (M.rs.map rowP)) (.tuple (M.ys.map PyData.bool))))) = true
  rw [show isLettersD (.str M.y) = true from h.ls, isD_tup1, isD_tup1, Bool.true_and, Bool.true_and, Bool.true_and]
  show (((decide ((1 : Int) ≤ ((M.rs.map rowP).length : Int)) && decide (((M.rs.map rowP).length : Int) ≤ 200)) && decide (((M.ys.map PyData.bool).length : Int) = ((M.rs.map rowP).length : Int))) && ((M.rs.map rowP).all (rowD M.y.length (M.rs.map rowP).length) && (M.ys.map PyData.bool).all (isD "bool"))) = true
  rw [List.length_map, List.length_map]
  have n1 := h.n1
  have n2 := h.n2
  have n3 := h.ye
  rw [decide_eq_true (by omega : (1 : Int) ≤ (M.rs.length : Int)), decide_eq_true (by omega : (M.rs.length : Int) ≤ 200), decide_eq_true (by omega : (M.ys.length : Int) = (M.rs.length : Int)), Bool.true_and, Bool.true_and, Bool.true_and]
  rw [Bool.and_eq_true]
  constructor
  · rw [List.all_map]
    refine List.all_eq_true.mpr fun r hr => ?_
    obtain ⟨l1, l2⟩ := h.row r hr
    show (decide (((r.map fun (n : Nat) => PyData.int n).length : Int) = (M.y.length : Int)) && (r.map fun (n : Nat) => PyData.int n).all (standD M.rs.length)) = true
    rw [List.length_map, decide_eq_true (by omega : (r.length : Int) = (M.y.length : Int)), Bool.true_and, List.all_map]
    exact List.all_eq_true.mpr fun s hs => stand_int (by have := l2 s hs; omega)
  · rw [List.all_map]
    exact List.all_eq_true.mpr fun b _ => (by decide +kernel : isK "bool" "bool" = true)
theorem tx_reader (M : Mach) (h : M.Ok) : TxR M.d := fun ds e u hu => by
  cases e
  intro z hz
  simp only [List.mem_cons, List.not_mem_nil, or_false] at hu
  rcases hu with rfl | rfl | rfl
  · cases hz
    have := h.yl
    omega
  · cases hz
  · cases hz
section
variable {P : Program} {w : World} {K : PySem.W.Frag} {mg : Str → Option Value} {base : Heap}
abbrev spCheckReader (K : PySem.W.Frag) : Sp := spP K (fun ds => ∃ M : Mach, ds = [M.d] ∧ M.Ok) (fun _ => .none)
def Mach.says (M : Mach) (cs : List Nat) : Bool := M.ys.getD (M.led 0 cs) false
theorem d_callE {σ : L2.St} {H : Hp} {ta : TA} {ds : List PyData} {sp : Sp} {E : XK} {d : PyData} (h : EvDs K ta σ H ds) (hs : ∀ vs H1 (Q : VK), Ex H H1 → DpAll K H1 vs ds → (∀ v H2, Ex H1 H2 → Dp K H2 v d → Q v H2) → sp vs H1 Q E) : EvD K (tCall sp [] E ta) σ H d := fun H1 a Q q =>
  h H1 a _ fun vs H2 x hd => by
    show sp (vs ++ []) H2 Q E
    rw [List.append_nil]
    exact hs vs H2 Q (a.trans x) hd fun v H3 y hv => q v H3 (x.trans y) hv
end
end K14

set_option maxHeartbeats 4000000
set_option autoImplicit false
/-! a body whose first statement never comes through: what stands behind it is not looked at. -/
namespace AsKit
open PySem PySem.Spec PyProof.Rows L2 AsSort
theorem pss_stop {X : Cx} {st : Stmt} {rest : List Stmt} {t : TS} (h1 : PS X st t) : PSs X (st :: rest) (fun D σ H => t { D with nx := fun _ _ => False } σ H) := by
  refine ⟨fun pins s σ H D I h => ?_⟩
  refine wpAny_execs_cons (thn (h1.run pins s σ H { D with nx := fun _ _ => False } I h) fun f s1 q => ?_)
  cases f with
  | next =>
    obtain ⟨_, _, _, q⟩ := q
    exact q.elim
  | ret v => exact q
  | brk => exact q
  | cont => exact q
end AsKit

set_option maxHeartbeats 4000000
set_option autoImplicit false
/-! the checks of readers, as they raise. -/
namespace K14
open PySem PySem.Spec PyProof.Rows L2 AsSort AsKit
open Evl (Ex Ev EvT EvA)
section
variable {P : Program} {w : World} {K : PySem.W.Frag} {mg : Str → Option Value} {base : Heap}
abbrev spXReader (K : PySem.W.Frag) (C : Addr) : Sp := spCk K (fun ds => ∃ d, ds = [d] ∧ TxR d) (fun ds => match ds with
  | [d] => readerD d
  | _ => false) C
abbrev spXTextR (K : PySem.W.Frag) (C : Addr) : Sp := spCk K (fun ds => ∃ y d, ds = [.str y, d] ∧ Tx d) (fun ds => match ds with
  | [.str y, d] => withinD y 40 d
  | _ => false) C
/-- a reader's letters -/
def letsOf : PyData → Str
  | .tuple (.str y :: _) => y
  | _ => ""
theorem reader_parts {d : PyData} (h : readerD d = true) : ∃ y rs ys, d = .tuple [.str y, .tuple rs, .tuple ys] := by
  cases d with
  | tuple ds =>
    by_cases hl : ds.length = 3
    · obtain ⟨a, b, c, rfl⟩ := three_of hl
      have h2 : (isLettersD a && (isD "tuple" b && (isD "tuple" c && okRows a b c))) = true := h
      simp only [Bool.and_eq_true] at h2
      obtain ⟨h3, h4, h5, _⟩ := h2
      obtain ⟨y, rfl, _⟩ := lettersD_str h3
      obtain ⟨rs, rfl⟩ := isD_tup h4
      obtain ⟨ys, rfl⟩ := isD_tup h5
      exact ⟨y, rs, ys, rfl⟩
    · have : readerL ds = true := h
      rw [readerL_len hl] at this
      cases this
  | _ => cases h
/-- two values, which is wrong first, or unlike; R, what is asked where both are readers of the same letters -/
def Ck2R (CR CU : Addr) (a b : PyData) (H : Hp) (E : XK) (R : Hp → Prop) : Prop := TxR a ∧ (readerD a = false → ∀ H', Ex H H' → E (.ref CR) none H') ∧
  (readerD a = true → TxR b ∧ (readerD b = false → ∀ H', Ex H H' → E (.ref CR) none H') ∧ (readerD b = true → (letsOf a ≠ letsOf b → ∀ H', Ex H H' → E (.ref CU) none H') ∧ (letsOf a = letsOf b → ∀ H', Ex H H' → R H')))
def spX2R (K : PySem.W.Frag) (CR CU : Addr) : Sp := fun vs H Q E => ∃ a b, DpAll K H vs [a, b] ∧ Ck2R CR CU a b H E (fun H' => Q .non H')
end
end K14

set_option maxHeartbeats 4000000
set_option autoImplicit false
/-! zip of two texts. -/
namespace AsZipS
open PySem PySem.Spec PyProof.Rows L2
/-- the signs of both, turn by turn, in new pairs -/
def ItzS (a b : Str) : It := ⟨fun i _ => i < a.cps.size ∧ i < b.cps.size, fun i H v H' => ∃ (T : Addr) (c d : Nat), v = .ref T ∧ H T = none ∧ H' = upd H T (.tup [.str ⟨#[c]⟩, .str ⟨#[d]⟩]) ∧ a.cps[i]? = some c ∧ b.cps[i]? = some d, fun i _ => (a.cps.size ≤ i ∨ b.cps.size ≤ i)⟩
abbrev TnS (a b : Str) (t u : Tok) (z TI TO i1 i2 : Addr) (i : Nat) (h : Heap) : Prop := i ≤ min a.cps.size b.cps.size ∧ IsZip h z TI TO .none ∧ IsTupOf2 h TI (.ref i1) (.ref i2) ∧ (∃ x y, IsTupOf2 h TO x y) ∧ h.IsStrIter i1 (strIterType a) a t i ∧ h.IsStrIter i2 (strIterType b) b u i
theorem turn_zipS {P : Program} {w : World} {K : PySem.W.Frag} {elts : List Expr} {kk : Nat} {tpos : Pos} {a b : Str} {t u : Tok} {z TI TO i1 i2 : Addr} (S : ZipSep2 z TI TO i1 i2 [i1] [i2]) :
    Turn P w K (.Tuple elts kk tpos) (ItzS a b) [z, TI, TO, i1, i2] z (TnS a b t u z TI TO i1 i2) where
  mem := List.mem_cons_self ..
  obj := fun i h st c hc => by
    obtain ⟨_, hz, hTI, ⟨x, y, hTO⟩, ⟨o1, e1, _, d1⟩, ⟨o2, e2, _, d2⟩⟩ := st
    simp only [List.mem_cons, List.not_mem_nil, or_false] at hc
    rcases hc with rfl | rfl | rfl | rfl | rfl
    · exact ⟨_, hz, (fun _ q => nomatch q)⟩
    · exact ⟨_, hTI, (fun _ q => nomatch q)⟩
    · exact ⟨_, hTO, (fun _ q => nomatch q)⟩
    · exact ⟨o1, e1, (fun v q => by rw [d1] at q; cases q)⟩
    · exact ⟨o2, e2, (fun v q => by rw [d2] at q; cases q)⟩
  keep := fun i h h' st k => by
    obtain ⟨hi, hz, hTI, ⟨x, y, hTO⟩, ⟨o1, e1, q1⟩, ⟨o2, e2, q2⟩⟩ := st
    have m : ∀ c, c ∈ [z, TI, TO, i1, i2] → ∀ o, h.get? c = some o → h'.get? c = some o := fun c hc o e => k c hc o e
    exact ⟨hi, m z (by simp) _ hz, m TI (by simp) _ hTI, ⟨x, y, m TO (by simp) _ hTO⟩, ⟨o1, m i1 (by simp) _ e1, q1⟩, ⟨o2, m i2 (by simp) _ e2, q2⟩⟩
  item := by
    intro X hP hw hK hc i pins s σ H E I hf st hg
    subst hP hw hK
    obtain ⟨hi, hz, hTI, ⟨x0, y0, hTO⟩, st1, st2⟩ := st
    have hh : X.A.in1.handled = none := I.ok.hd hc
    refine wpAny_pyNext_zipD2_item S (Draws.text (A := X.A.in1) hh i1 a t) (Draws.text (A := X.A.in1) hh i2 b u) hz hTI hTO st1 st2 hg.1 hg.2 fun x1 x2 h' tk y1 y2 z' TO' st1' st2' hT hsz hk => ?_
    obtain ⟨c, uc, hc1, rfl⟩ := y1
    obtain ⟨d, ud, hd1, rfl⟩ := y2
    have lt : ∀ {c o}, s.heap.get? c = some o → c < s.heap.objs.size := fun e => Heap.lt_size e
    have hzl := lt hz
    refine ⟨_, rfl, wpAny_letOwnedTupleGo_zip (s := { s with heap := h', toks := tk }) z' fun h'' z'' sb => ?_⟩
    have sb2 : ∀ c o, c ≠ z → h'.get? c = some o → h''.get? c = some o := fun c o n e => sb.extBut c o n e
    have hT2 := sb2 _ _ (Nat.ne_of_gt hzl) hT
    have new : ObjOk X.prog X.w (upd H s.heap.objs.size (.tup [.str ⟨#[c]⟩, .str ⟨#[d]⟩])) h'' s.heap.objs.size (.tup [.str ⟨#[c]⟩, .str ⟨#[d]⟩]) := ⟨by show 2 ≤ sizeLine; decide, _, .cons ⟨_, rfl⟩ (.cons ⟨_, rfl⟩ .nil), ⟨_, hT2, rfl, _, rfl⟩⟩
    have I1 : Inv X pins σ (upd H s.heap.objs.size (.tup [.str ⟨#[c]⟩, .str ⟨#[d]⟩])) { s with heap := h'', toks := tk } :=
      I.turnedNew (t' := tk) (ch := [z, TI, TO, i1, i2]) (fun c o hb q => sb2 c o (fun e => hb (by simp [e])) (hk c o (fun e => hb (by simp [e])) (fun e => hb (by simp [e])) (fun e => hb (by simp [e])) (fun e => hb (by simp [e])) q)) hf (Nat.le_refl _) new
    have nz1 : i1 ≠ z := fun e => S.zf1 (by rw [← e]; exact S.mem1)
    have nz2 : i2 ≠ z := fun e => S.zf2 (by rw [← e]; exact S.mem2)
    obtain ⟨p1, e1, q1⟩ := st1'
    obtain ⟨p2, e2, q2⟩ := st2'
    refine ⟨.ref s.heap.objs.size, _, I1, rfl, ⟨_, c, d, rfl, I.hok.fresh (Nat.le_refl _), rfl, hc1, hd1⟩, ⟨by have := hg.1; have := hg.2; omega, z'', sb2 _ _ S.TIz (hk _ _ S.TIz S.TITO S.TIi1 S.TIi2 hTI), ⟨_, _, sb2 _ _ S.TOz TO'⟩, ⟨p1, sb2 _ _ nz1 e1, q1⟩, ⟨p2, sb2 _ _ nz2 e2, q2⟩⟩, fun c' hcm => ?_⟩
    have hlt : c' < s.heap.objs.size := by
      simp only [List.mem_cons, List.not_mem_nil, or_false] at hcm
      obtain ⟨_, w1, _⟩ := st1
      obtain ⟨_, w2, _⟩ := st2
      rcases hcm with rfl | rfl | rfl | rfl | rfl
      · exact hzl
      · exact lt hTI
      · exact lt hTO
      · exact lt w1
      · exact lt w2
    rw [upd_ne (Nat.ne_of_lt hlt)]
    exact (hf c' hcm).1
  done := by
    intro X hP hw hK hc i pins s σ H E I hf st hg
    subst hP hw hK
    obtain ⟨hi, hz, hTI, ⟨x0, y0, hTO⟩, st1, st2⟩ := st
    have hh : X.A.in1.handled = none := I.ok.hd hc
    have hg : a.cps.size ≤ i ∨ b.cps.size ≤ i := hg
    refine wpAny_pyNext_zipD2_end S (Draws.text (A := X.A.in1) hh i1 a t) (Draws.text (A := X.A.in1) hh i2 b u) hz hTI hTO st1 st2 (by omega) (by omega) (by omega) fun h' tk hk => ⟨rfl, I.turnedL (t' := tk) (ch := [z, TI, TO, i1, i2]) (fun c o hb q => ?_) hf⟩
    exact hk c o (fun e => hb (by simp [e])) (fun e => hb (by simp [e])) (fun e => hb (by simp [e])) (fun e => hb (by simp [e])) q
  self := fun A i s Q E st h => wpAny_pyIter_zip st.2.1 h
def iZipS (ta : TA) : TI := fun σ H R => ta σ H fun vs H1 => ∃ a b : Str, vs = [.str a, .str b] ∧ R (ItzS a b) H1
theorem pi_zipS {X : Cx} {e e2 : Expr} {ta : TA} {p pos tpos : Pos} {elts : List Expr} {kk : Nat} (hg : Gl X "zip") (hm : X.mg "zip" = none) (ha : PA X [e, e2] ta)
    (hs : starEach [e, e2] X.env = (false, eval e X.env) :: starEach [e2] X.env := by rfl) (hpl : (backTo pos (starEach [e2] X.env)).any (·.1) = false := by rfl) : PI X (.Tuple elts kk tpos) (.Call (.Name "zip" p) [e, e2] [] pos) (iZipS ta) := by
  refine ⟨fun pins s σ H R I h => ?_⟩
  refine Call_ (ld_blt I hg hm PyProof.Rows.boot_zip (PyProof.Rows.callWith_type1 (thn (ha.run pos pins s σ H _ I h) fun us s1 ⟨vs, H1, I1, r1, a, b, ev, q⟩ => ?_) hs hpl))
  subst ev
  obtain ⟨u1, u2, rfl, r, r'⟩ := vals2 r1
  obtain ⟨t, rfl⟩ := r
  obtain ⟨u, rfl⟩ := r'
  have ns : ∀ k, k ≤ 4 → FpOk X pins H1 (s1.heap.objs.size + k) := fun k _ => I1.fpOk (Nat.le_add_right _ _) (I1.hok.fresh (Nat.le_add_right _ _))
  refine zip_begins2 (begins_text a t) (begins_text b u) trivial trivial fun h' hz hTI hTO g1 g2 hsz hk => wpAny_pyIter_zip hz ?_
  have I2 : Inv X pins σ H1 { s1 with heap := h' } := I1.kept (t' := s1.toks) hk
  have ne : ∀ {i j : Nat}, i ≠ j → s1.heap.objs.size + i ≠ s1.heap.objs.size + j := fun h e => h (Nat.add_left_cancel e)
  refine ⟨s1.heap.objs.size + 4, [s1.heap.objs.size + 4, s1.heap.objs.size + 2, s1.heap.objs.size + 3, s1.heap.objs.size, s1.heap.objs.size + 1], _, ItzS a b, H1, rfl, I2, turn_zipS (t := t) (u := u) (i1 := s1.heap.objs.size) (i2 := s1.heap.objs.size + 1) ⟨ne (by decide), ne (by decide), ne (by decide), ne (i := 2) (j := 0) (by decide), by simp, by simp, by simp, ne (by decide), by simp, by simp, by simp, by simp, by simp⟩, ⟨Nat.zero_le _, hz, hTI, ⟨_, _, hTO⟩, ⟨_, g1, rfl, rfl⟩, ⟨_, g2, rfl, rfl⟩⟩, fun c hc => ?_, q⟩
  simp only [List.mem_cons, List.not_mem_nil, or_false] at hc
  rcases hc with rfl | rfl | rfl | rfl | rfl
  · exact ns 4 (by decide)
  · exact ns 2 (by decide)
  · exact ns 3 (by decide)
  · exact ns 0 (by decide)
  · exact ns 1 (by decide)
open AsSort AsKit
open Evl (Ex Ev EvT EvA)
def pairsZ (a b : Str) : List PyData := (a.cps.toList.zip b.cps.toList).map fun p => .tuple [.str ⟨#[p.1]⟩, .str ⟨#[p.2]⟩]
theorem cd_ex {K : PySem.W.Frag} {H H1 H2 : Hp} {ds : List PyData} {f : PyData → Bool} {g : PyData → PyData} {D : Addr} {i : Nat} (p : Cd K H ds f g D i H1) (e : Ex H1 H2) : Cd K H ds f g D i H2 := by
  obtain ⟨p1, p2, acc, p3, p4⟩ := p
  exact ⟨p1, p2.trans e, acc, e _ _ p3, dpAll_ex e p4⟩
theorem d_lcZ {K : PySem.W.Frag} {σ : L2.St} {H : Hp} {ta : TA} {t : TT} {te : TE} {gt : TG} {vs : List Nat} {a b : Str} (f : PyData → Bool) (g : PyData → PyData) (h : EvDs K ta σ H [.str a, .str b]) (hz : a.length ≤ 50000) (him : ∀ d ∈ pairsZ a b, f d = true → imm (g d) = true) (ht : ∀ d ∈ pairsZ a b, Turn K gt t te vs σ H d (f d) (g d)) :
    EvD K (tLc (iZipS ta) gt t te vs) σ H (.list (((pairsZ a b).filter f).map g)) := fun H1 x Q q => h H1 x _ fun us H2 e2 hu => by
  cases hu with
  | cons h1 hu =>
  cases hu with
  | cons h2 hu =>
  cases hu
  cases h1
  cases h2
  have la : a.cps.toList.length = a.length := Array.length_toList
  have lb : b.cps.toList.length = b.length := Array.length_toList
  have lz : (pairsZ a b).length = min a.length b.length := by unfold pairsZ; rw [List.length_map, List.length_zip, la, lb]
  refine ⟨a, b, rfl, fun D hD => ⟨fun i m H' => m = min a.length b.length - i ∧ i ≤ min a.length b.length ∧ Cd K H2 (pairsZ a b) f g D i H', ⟨_, rfl, Nat.zero_le _, cd_start hD⟩, ?_⟩⟩
  rintro i m H' ⟨rfl, hi, p⟩
  by_cases hlt : i < min a.length b.length
  · refine .inr ⟨⟨(by show i < a.length; omega), (by show i < b.length; omega)⟩, fun G => Cd K H2 (pairsZ a b) f g D (i + 1) G, fun G hG => ⟨_, (by omega : min a.length b.length - (i + 1) < min a.length b.length - i), rfl, (by omega), hG⟩, fun y G hy => ?_⟩
    obtain ⟨T, c, d, rfl, nT, rfl, hc, hd⟩ := hy
    have xT : Ex H' (upd H' T (.tup [.str ⟨#[c]⟩, .str ⟨#[d]⟩])) := Ex.new nT
    have hdi : (pairsZ a b)[i]? = some (.tuple [.str ⟨#[c]⟩, .str ⟨#[d]⟩]) := by
      unfold pairsZ
      rw [List.getElem?_map, List.getElem?_zip_eq_some (z := (c, d)).mpr ⟨by rw [Array.getElem?_toList]; exact hc, by rw [Array.getElem?_toList]; exact hd⟩]
      rfl
    have hx : Dp K (upd H' T (.tup [.str ⟨#[c]⟩, .str ⟨#[d]⟩])) (.ref T) (.tuple [.str ⟨#[c]⟩, .str ⟨#[d]⟩]) := .tup (Evl.st_of upd_same) (.cons (.str _) (.cons (.str _) .nil))
    exact ht _ (List.mem_of_getElem? hdi) _ _ (x.trans (e2.trans (p.2.1.trans xT))) hx _ fun σ2 w h1 h2 => ⟨w, cd_turn him (cd_ex p xT) hdi (by omega) h1 h2⟩
  · have e : i = (pairsZ a b).length := by omega
    rw [e] at p
    have z := cd_end p
    refine .inl ⟨?_, q _ H' (e2.trans z.1) z.2⟩
    show a.length ≤ i ∨ b.length ≤ i
    omega
end AsZipS

set_option maxHeartbeats 4000000
set_option autoImplicit false
/-! lambdas that capture names, with defaults or without: made, kept in a list, called by a def that they are handed to. -/
namespace AsAct
open PySem PySem.Spec PyProof.Rows L2 LamX NdefX
/-- a lambda's words; bn: its parameters, all of which have defaults -/
structure Lw where
  params : Arguments
  body : Expr
  scope : Scope
  bn : List Str
abbrev lfd (L : Lw) (q : Str) (cl : List (Str × Addr)) (dV doc pm ctv : Value) (c' : Addr) : FuncData := PySem.W.kdv_fn "<lambda>" q L.params (.expr L.body) L.scope cl dV doc pm (.ref c') ctv
/-- the lambda's object -/
def LmO (f : Addr) (L : Lw) (q : Str) (cl : List (Str × Addr)) (dV : Value) (c' : Addr) : HO := .ext fun h => ∃ (od : Option Addr) (sl : Array (Option Value)) (doc pm ctv : Value), h.get? f = some (⟨.type "function", od, .func (lfd L q cl dV doc pm ctv c'), sl⟩ : Obj)
/-- its defaults -/
def DfO (T : Addr) (ds : List Value) : HO := .ext fun h => h.get? T = some (PySem.W.kdv_tup ds)
/-- the lambda stands at f -/
def LmAt (X : Cx) (f : Addr) (L : Lw) (H : Hp) : Prop := ∃ (dV : Value) (c' : Addr) (ds : List Value), H f = some (LmO f L (X.env.qual ++ "<lambda>") (cloFrom X.env.cells L.scope.names []) dV c') ∧ H c' = some (CodeO c' (X.env.qual ++ "<lambda>")) ∧ ds.length = L.bn.length ∧
  ((ds = [] ∧ dV = .none) ∨ (ds ≠ [] ∧ ∃ T, dV = .ref T ∧ H T = some (DfO T ds)))
theorem LmAt.ext {X : Cx} {f : Addr} {L : Lw} {H G : Hp} (h : LmAt X f L H) (e : ExtN H G) : LmAt X f L G := by
  obtain ⟨dV, c', ds, h1, h2, h3, h4⟩ := h
  refine ⟨dV, c', ds, e _ _ h1 fun ps z => ?_, e _ _ h2 codeO_ne, h3, h4.imp id fun ⟨en, T, e1, e2⟩ => ⟨en, T, e1, e _ _ e2 fun ps z => ?_⟩⟩
  · unfold LmO at z; cases z
  · unfold DfO at z; cases z
section
variable {X : Cx} {pins : List (Addr × Obj)} {σ : L2.St} {H : Hp} {s : Shared}
theorem inv_lm {L : Lw} {q : Str} {cl : List (Str × Addr)} {dV doc pm ctv : Value} {c' : Addr} {t' : Nat} (I : Inv X pins σ H s) :
    Inv X pins σ (upd H s.heap.objs.size (LmO s.heap.objs.size L q cl dV c')) { s with heap := s.heap.push { cls := .type "function", data := .func (lfd L q cl dV doc pm ctv c') }, toks := t' } := by
  have z : (s.heap.push ({ cls := .type "function", data := .func (lfd L q cl dV doc pm ctv c') } : Obj)).get? s.heap.objs.size = some _ := Heap.get?_push_size _ rfl
  exact I.laid (a := s.heap.objs.size) (fun b u q => Heap.get?_push_of_some _ q) (Nat.le_refl _) ⟨⟨_, _, doc, pm, ctv, z⟩, ⟨_, z⟩, fun h1 h2 ⟨od, sl, d, p, t, y⟩ st => ⟨od, sl, d, p, t, st _ y⟩⟩
/-- the tail of its making; dV its defaults -/
theorem lm_tail {T : List NTab} {nm : Nat → Nat → Str} {c P : Addr} {L : Lw} {pos : Pos} {dV : Value} {E : Value → Shared → Prop} {Q : Value → Shared → Prop} (I : Inv X pins σ H s) (TB : TabB X.base X.mg c P) (hcode : X.env.code = .ref c)
    (hm : (P, nm) ∈ T) (hn : nm pos.line pos.col = X.env.qual ++ "<lambda>") (hu : ∀ p ∈ T, p.1 = P → p.2 = nm) (hT : TabsN T H) (hfree : ∀ y ∈ L.scope.names, y.2 = .free → ∃ c, X.env.cells.lookup y.1 = some c)
    (h : ∀ (f c' : Addr) (G : Hp) (z : Shared), Inv X pins σ G z → ExtN H G → TabsN T G → H f = none → G f = some (LmO f L (X.env.qual ++ "<lambda>") (cloFrom X.env.cells L.scope.names []) dV c') → G c' = some (CodeO c' (X.env.qual ++ "<lambda>")) → Q (.ref f) z) :
    wpAny (model X.prog X.w) X.A (makeTail "<lambda>" (X.env.qual ++ "<lambda>") L.params (.expr L.body) L.scope X.env dV .none none pos pos.line) Q E s := by
  obtain ⟨ps, hP, ht, ha⟩ := (show TabN H P nm from hT _ hm)
  have bP : s.heap.BuiltinsAt X.mg P := TB.bm.keeps I.bk
  have oP : s.heap.get? P = some { cls := .none, data := .fields ps } := I.hok P _ hP
  cases hc : codeAmong pos ps.toList with
  | some cv =>
    obtain ⟨c', rfl, hco⟩ := ha pos cv hc
    rw [hn] at hco
    refine PySem.W.kdv_makeTailHit (mg := X.mg) (c := c) (P := P) (ps := ps) (closure_ok hfree) I.ok.glob (I.mod.glob.keeps I.bk) hcode (TB.code.keeps I.bk) oP ht hc bP fun ctv doc h' tk hx _ => ?_
    have I1 : Inv X pins σ H { s with heap := h', toks := tk } := I.kept hx
    have nF : H h'.objs.size = none := I1.hok.fresh (Nat.le_refl _)
    have I2 := inv_lm (L := L) (q := X.env.qual ++ "<lambda>") (cl := cloFrom X.env.cells L.scope.names []) (dV := dV) (doc := doc) (pm := (X.mg "__name__").getD .none) (ctv := ctv) (c' := c') (t' := tk) I1
    exact h h'.objs.size c' _ _ I2 (fun b o e _ => (upd_ne (ne_of_none e nF)).trans e) (hT.ext fun b o e => (upd_ne (ne_of_none e nF)).trans e) nF upd_same ((upd_ne (ne_of_none hco nF)).trans hco)
  | none =>
    refine PySem.W.kdv_makeTail (mg := X.mg) (c := c) (P := P) (ps := ps) (closure_ok hfree) I.ok.glob (I.mod.glob.keeps I.bk) hcode (TB.code.keeps I.bk) oP ht hc TB.gP bP fun c' ctv doc h' tk hx hge hlt hrec htb => ?_
    obtain ⟨c2, oc, vs, t, e2, hoc, hd, hv⟩ := hrec
    cases e2
    have nC : H c' = none := I.hok.fresh hge
    obtain ⟨more, emore⟩ : ∃ more : Array Value, more = #[rawInt pos.line, rawInt pos.col, .ref c'] := ⟨_, rfl⟩
    rw [← emore] at htb
    obtain ⟨G, eG⟩ : ∃ G, G = upd (upd H P (.tbl (ps ++ more))) c' (CodeO c' (X.env.qual ++ "<lambda>")) := ⟨_, rfl⟩
    have I1 : Inv X pins σ G { s with heap := h', toks := tk } := by
      rw [eG]
      exact inv_table (t' := tk) (more := more) (h' := h') I hP (fun b o hb e => hx b o hb e) htb hge ⟨oc, vs, t, hoc, hd, hv⟩
    have gE : ExtN H G := fun b o e n => by
      rw [eG, upd_ne (ne_of_none e nC), upd_ne (fun z => n ps (Option.some.inj (e.symm.trans (by rw [z]; exact hP))))]
      exact e
    have gC : G c' = some (CodeO c' (X.env.qual ++ "<lambda>")) := by rw [eG]; exact upd_same
    have gP : G P = some (.tbl (ps ++ more)) := by rw [eG, upd_ne (ne_of_none hP nC), upd_same]
    have eL : (ps ++ more).toList = ps.toList ++ [rawInt pos.line, rawInt pos.col, .ref c'] := by rw [emore]; simp
    have gT : TabsN T G := fun p hp => by
      by_cases hb : p.1 = P
      · rw [hu p hp hb, hb]
        refine ⟨_, gP, by rw [eL]; exact PySem.TriplesOk_snoc _ _ _ _ ht, fun p' cv hcv => ?_⟩
        rw [eL] at hcv
        rcases among_app2 _ ht hcv with z | ⟨z, z1, z2⟩
        · obtain ⟨c0, e1, e3⟩ := ha p' cv z
          exact ⟨c0, e1, gE _ _ e3 codeO_ne⟩
        · exact ⟨c', z, by rw [← z1, ← z2, hn]; exact gC⟩
      · obtain ⟨ps', a1, a2, a3⟩ := hT p hp
        refine ⟨ps', by rw [eG, upd_ne (ne_of_none a1 nC), upd_ne hb]; exact a1, a2, fun p' cv hcv => ?_⟩
        obtain ⟨c0, e1, e3⟩ := a3 p' cv hcv
        exact ⟨c0, e1, gE _ _ e3 codeO_ne⟩
    have nF : G h'.objs.size = none := I1.hok.fresh (Nat.le_refl _)
    have nF0 : H h'.objs.size = none := I.hok.fresh (Nat.le_trans hge (Nat.le_of_lt hlt))
    have I2 := inv_lm (L := L) (q := X.env.qual ++ "<lambda>") (cl := cloFrom X.env.cells L.scope.names []) (dV := dV) (doc := doc) (pm := (X.mg "__name__").getD .none) (ctv := ctv) (c' := c') (t' := tk) I1
    refine h h'.objs.size c' _ _ I2 (fun b o e n => (upd_ne (ne_of_none (gE b o e n) nF)).trans (gE b o e n)) (gT.ext fun b o e => (upd_ne (ne_of_none e nF)).trans e) nF0 upd_same ((upd_ne (Nat.ne_of_lt hlt)).trans gC)
/-- the reading of a lambda -/
def tLm (X : Cx) (T : List NTab) (L : Lw) : TE := fun _ H Q => TabsN T H ∧ ∀ (f : Addr) (G : Hp), ExtN H G → TabsN T G → H f = none → LmAt X f L G → Q (.ref f) G
theorem pe_lm0 {T : List NTab} {nm : Nat → Nat → Str} {c P : Addr} {L : Lw} {pos : Pos} (TB : TabB X.base X.mg c P) (hcode : X.env.code = .ref c) (hm : (P, nm) ∈ T) (hn : nm pos.line pos.col = X.env.qual ++ "<lambda>") (hu : ∀ p ∈ T, p.1 = P → p.2 = nm)
    (hfree : ∀ y ∈ L.scope.names, y.2 = .free → X.env.scope.names.lookup y.1 = some .cell ∨ X.env.scope.names.lookup y.1 = some .free) (h0 : L.bn = []) (hdef : defaultsOf L.params X.env = ([], []) := by rfl) : PE X (.Lambda L.params L.body L.scope pos) (tLm X T L) := by
  refine ⟨fun pins s σ H Q I ⟨hT, h⟩ => PySem.W.kla_eval hdef ?_⟩
  rw [makeFunction_eq]
  simp only [List.zip_nil_right, List.filterMap_nil, List.isEmpty_nil, if_true, pure_bind]
  refine lm_tail I TB hcode hm hn hu hT (fun y hy e => (hfree y hy e).elim (fun z => I.ok.has _ (.inl z)) fun z => I.ok.has _ (.inr z)) fun f c' G z J e1 e3 e4 e5 e6 => ⟨.ref f, G, J, rfl, h f G e1 e3 e4 ⟨.none, c', [], e5, e6, by rw [h0]; rfl, .inl ⟨rfl, rfl⟩⟩⟩
theorem pe_lm1 {T : List NTab} {nm : Nat → Nat → Str} {c P : Addr} {L : Lw} {pos p0 : Pos} {x : Str} {i : Int} {k : Nat} (TB : TabB X.base X.mg c P) (hcode : X.env.code = .ref c) (hm : (P, nm) ∈ T) (hn : nm pos.line pos.col = X.env.qual ++ "<lambda>") (hu : ∀ p ∈ T, p.1 = P → p.2 = nm)
    (hfree : ∀ y ∈ L.scope.names, y.2 = .free → X.env.scope.names.lookup y.1 = some .cell ∨ X.env.scope.names.lookup y.1 = some .free) (h0 : L.bn = [x]) (hd : L.params.defaults = [.Constant (.int i) k p0]) (hk : L.params.kw_defaults = []) : PE X (.Lambda L.params L.body L.scope pos) (tLm X T L) := by
  refine ⟨fun pins s σ H Q I ⟨hT, h⟩ => PySem.W.kdv_lam (by rw [hd]; rfl) hk ?_⟩
  rw [hd]
  refine PySem.W.kdv_all1 (thn ((pe_int (X := X) (i := i) (pos := p0)).run pins s σ H (fun v G => v = .int i ∧ G = H) I ⟨rfl, rfl⟩) fun v s1 ⟨x1, H1, I1, r1, e1, e2⟩ => PySem.W.kdv_all0 ?_)
  subst e1
  rw [e2] at I1
  rw [makeFunction_eq]
  simp only [List.zip_nil_right, List.filterMap_nil, List.isEmpty_nil, List.isEmpty_cons, Bool.false_eq_true, if_false, if_true, pure_bind]
  refine wpAny_bind (wpAny_newTextTuple ?_)
  have z : (s1.heap.push (PySem.W.kdv_tup [v])).get? s1.heap.objs.size = some _ := Heap.get?_push_size _ rfl
  have nT : H s1.heap.objs.size = none := I1.hok.fresh (Nat.le_refl _)
  have I2 : Inv X pins σ (upd H s1.heap.objs.size (DfO s1.heap.objs.size [v])) { s1 with heap := s1.heap.push (PySem.W.kdv_tup [v]) } := I1.laid (a := s1.heap.objs.size) (fun b u q => Heap.get?_push_of_some _ q) (Nat.le_refl _) ⟨z, ⟨_, z⟩, fun h1 h2 y st => st _ y⟩
  have e0 : ∀ b o, H b = some o → upd H s1.heap.objs.size (DfO s1.heap.objs.size [v]) b = some o := fun b o e => (upd_ne (ne_of_none e nT)).trans e
  refine lm_tail I2 TB hcode hm hn hu (hT.ext e0) (fun y hy e => (hfree y hy e).elim (fun z => I.ok.has _ (.inl z)) fun z => I.ok.has _ (.inr z)) fun f c' G z2 J e1 e3 e4 e5 e6 => ⟨.ref f, G, J, rfl, h f G ((ExtN.of e0).trans e1) e3 ?_ ⟨.ref s1.heap.objs.size, c', [v], e5, e6, by rw [h0]; rfl, .inr ⟨fun z => (nomatch z), _, rfl, e1 _ _ upd_same fun ps z => ?_⟩⟩⟩
  · cases q : H f with
    | none => rfl
    | some o => rw [e0 f o q] at e4; cases e4
  · unfold DfO at z; cases z
end
end AsAct

set_option maxHeartbeats 4000000
set_option autoImplicit false
/-! such a lambda called, by the def that it is handed to. -/
namespace AsAct
open PySem PySem.Spec PyProof.Rows L2 LamX NdefX
/-- its names: parameters that the maker has no names for, captured ones, globals -/
structure LmS (N : List Str) (sc : Scope) (L : Lw) : Prop where
  kind : L.scope.kind = .function
  co : L.scope.isCoroutine = false
  gen : L.scope.isGenerator = false
  nocell : ∀ y ∈ L.scope.names, y.2 ≠ .cell
  own : ∀ y ∈ L.scope.names, y.2 = .local → y.1 ∉ N
  par : ∀ x ∈ L.bn, L.scope.names.lookup x = some .local
  free : ∀ y ∈ L.scope.names, y.2 = .free → sc.names.lookup y.1 = some .cell ∨ sc.names.lookup y.1 = some .free
def lmSB (N : List Str) (sc : Scope) (L : Lw) : Bool :=
  decide (L.scope.kind = .function) && !L.scope.isCoroutine && !L.scope.isGenerator && L.scope.names.all (fun y => !decide (y.2 = .cell)) && L.scope.names.all (fun y => !decide (y.2 = .local) || !decide (y.1 ∈ N)) && L.bn.all (fun x => decide (L.scope.names.lookup x = some .local))
    && L.scope.names.all (fun y => !decide (y.2 = .free) || (decide (sc.names.lookup y.1 = some .cell) || decide (sc.names.lookup y.1 = some .free)))
theorem lmS_by {N : List Str} {sc : Scope} {L : Lw} (h : lmSB N sc L = true) : LmS N sc L := by
  unfold lmSB at h
  simp only [Bool.and_eq_true, Bool.not_eq_true', decide_eq_true_eq, List.all_eq_true, Bool.or_eq_true, decide_eq_false_iff_not] at h
  obtain ⟨⟨⟨⟨⟨⟨h1, h2⟩, h3⟩, h4⟩, h5⟩, h6⟩, h7⟩ := h
  exact ⟨h1, h2, h3, h4, fun y hy e => (h5 y hy).elim (fun z => absurd e z) id, h6, fun y hy e => (h7 y hy).elim (fun z => absurd e z) id⟩
section
variable {X : Cx} {pins : List (Addr × Obj)} {σ : L2.St} {H HZ : Hp} {s s1 : Shared}
/-- the maker's cells stand at s1 as they did at s -/
def CellsKept (X : Cx) (s s1 : Shared) (H1 : Hp) : Prop := ∀ y c, X.env.cells.lookup y = some c → H1 c = none ∧ ∀ v, s.heap.IsCell c v → s1.heap.IsCell c v
theorem CellsKept.self (I : Inv X pins σ H s) : CellsKept X s s H := fun y c e => ⟨I.freeC y c e, fun _ z => z⟩
theorem CellsKept.un {s2 : Shared} {H1 H2 : Hp} {fs ex : List Addr} (c0 : ∀ y c, X.env.cells.lookup y = some c → ∃ v, s.heap.IsCell c v) (k : CellsKept X s s1 H1) (un : Un fs ex H1 H2 s1.heap s2.heap) (nx : ∀ y c, X.env.cells.lookup y = some c → c ∉ ex) : CellsKept X s s2 H2 := fun y c e => by
  obtain ⟨n, st⟩ := k y c e
  obtain ⟨v, z⟩ := c0 y c e
  obtain ⟨o, ho, _⟩ := st v z
  refine ⟨un.free c o ho n (nx y c e), fun v z => ?_⟩
  obtain ⟨o, ho, q⟩ := st v z
  obtain ⟨sl, e2⟩ := un.any ho n (nx y c e)
  exact ⟨_, e2, q⟩
abbrev lmEnv (X : Cx) (L : Lw) (B f c' : Addr) : Env := lamEnv X L.scope B f c'
/-- at its entry, told over the maker's names -/
theorem lm_start {A : Around} {outer : List Env} {E : XK} {L : Lw} {f c' : Addr} {h1 : Heap} {tk : Nat} {m : Str → Option Value} (I : Inv X pins σ H s) (S : LmS X.N X.env.scope L) (e0 : Env0 X.prog X.w X.K X.mg X.base A outer s1 HZ) (hd : A.handled = none)
    (ck : CellsKept X s s1 HZ) (hns : h1.Ns s1.heap.objs.size m) (kp : ∀ b o, s1.heap.get? b = some o → h1.get? b = some o) : Inv (lamCx X A outer s1 HZ E L.scope f c') [] σ HZ { s1 with heap := h1, toks := tk } := by
  have hfree : ∀ y ∈ L.scope.names, y.2 = .free → ∃ c, X.env.cells.lookup y.1 = some c := fun y hy e => (S.free y hy e).elim (fun k => I.ok.has _ (.inl k)) fun k => I.ok.has _ (.inr k)
  have cm : ∀ {y c}, (cloFrom X.env.cells L.scope.names []).lookup y = some c → X.env.cells.lookup y = some c := fun {y c} e => by
    rcases cloFrom_mem (PySem.mem_of_lookup e) with z | ⟨z1, z2⟩
    · cases z
    · obtain ⟨c1, q⟩ := hfree _ z1 rfl
      have q : X.env.cells.lookup y = some c1 := q
      have e2 : c = c1 := by rw [z2, q] <;> rfl
      rw [e2]
      exact q
  have look : ∀ {y}, L.scope.names.lookup y = some .free → ∃ c, (cloFrom X.env.cells L.scope.names []).lookup y = some c := fun {y} z => mem_lookup (cloFrom_has (cells := X.env.cells) (acc := []) (show (y, NameKind.free) ∈ L.scope.names from PySem.mem_of_lookup z))
  have stay : ∀ {y : Str} {c : Addr} {v : Option Value}, X.env.cells.lookup y = some c → s.heap.IsCell c v → h1.IsCell c v := fun {y c v} n z => by
    obtain ⟨o, ho, q⟩ := (ck y c n).2 v z
    exact ⟨_, kp _ _ ho, q⟩
  have noA : ∀ b : Addr, b ∉ (lamCx X A outer s1 HZ E L.scope f c').ex := fun b z => absurd (show b ∈ ([] : List Addr) from z) (by simp)
  refine ⟨⟨e0.mod, S.kind, rfl, rfl, Nat.le_refl _, fun y z c e1 e2 => I.ok.inj y z c (cm e1) (cm e2), fun y hy => ?_, fun y c z _ => ?_, fun _ => hd, Around.frames_deeper e0.frames, .inr ⟨rfl, rfl⟩, fun b z => absurd z (noA b), e0.bs, e0.bsz,
      fun b _ _ => noA b, fun b z => absurd z (noA b), e0.funs, e0.frf⟩,
    rfl, e0.bare, Un.kept kp, ⟨_, hns, fun i y v e1 e2 e3 => ?_⟩, fun y c e => ?_, e0.hok.fresh (Nat.le_refl _), fun y c e => ?_, fun q hq => absurd (show q ∈ ([] : List (Addr × Obj)) ++ [] from hq) (by simp), e0.hok.kept kp, I.len⟩
  · have hy : L.scope.names.lookup y = some .cell ∨ L.scope.names.lookup y = some .free := hy
    exact hy.elim (fun z => absurd rfl (S.nocell _ (PySem.mem_of_lookup z))) look
  · have z : false = true := z
    cases z
  · have e3 : Vis L.scope y := e3
    have e1 : X.N[i]? = some y := e1
    rcases e3 with k | k | k
    · exact absurd (List.mem_of_getElem? e1) (S.own _ (PySem.mem_of_lookup k) rfl)
    · exact absurd rfl (S.nocell _ (PySem.mem_of_lookup k))
    · obtain ⟨m', hn, hl⟩ := I.loc
      have way := S.free _ (PySem.mem_of_lookup k) rfl
      obtain ⟨u, r, q⟩ := hl i y v e1 e2 (way.elim (fun z => .inr (.inl z)) fun z => .inr (.inr z))
      obtain ⟨c2, h2⟩ := look k
      refine ⟨u, r, .inr ⟨.inr k, c2, h2, ?_⟩⟩
      have c1 := cm h2
      rcases q with ⟨k', _⟩ | ⟨_, c3, e', z⟩
      · have k' : X.env.scope.names.lookup y = some .local := k'
        rcases way with k2 | k2 <;> rw [show X.env.scope.names.lookup y = _ from k2] at k' <;> cases k'
      · rw [c1] at e'
        cases e'
        exact stay c1 z
  · obtain ⟨u, z⟩ := I.cell y c (cm e)
    exact ⟨u, stay (cm e) z⟩
  · exact (ck y c (cm e)).1
/-- what a lambda's body promises: its reading, over the maker's names -/
structure LmP (X : Cx) (k : Nat) (L : Lw) (t : XK → TE) : Prop where
  S : LmS X.N X.env.scope L
  bind : ∀ (s : Shared) (q : Str) (cl : List (Str × Addr)) (dV doc pm ctv : Value) (c' : Addr) (ds : List Value), ds.length = L.bn.length → ((ds = [] ∧ dV = .none) ∨ (ds ≠ [] ∧ ∃ T, dV = .ref T ∧ s.heap.get? T = some (PySem.W.kdv_tup ds))) → BindsTo s (lfd L q cl dV doc pm ctv c') ⟨[], []⟩ (L.bn.zip ds)
  body : ∀ (A : Around) (outer : List Env) (s : Shared) (H : Hp) (E : XK) (f c' : Addr), Room k (A.deeper (lmEnv X L s.heap.objs.size f c')) → PE (lamCx X A outer s H E L.scope f c') L.body (t E)
/-- call(), in the def that got the lambda: I is the maker's state ahead of that def's call -/
theorem pe_acts {CXg : CXT} {Eg : XK} {Ng : List Str} {qg : Str} {sg : Scope} {g f : Addr} {cdg : Value} {L : Lw} {t : XK → TE} {k i : Nat} {a : Str} {pn : List (Addr × Obj)} {xe : Value → Shared → Prop} {W : WX} {E : XK} {p1 p2 : Pos}
    (I : Inv X pins σ H s) {s1 : Shared} {H1 : Hp} (ck : CellsKept X s s1 H1) (P : LmP X k L t) (tk : Takes ((cxOf CXg X.prog X.w X.K X.mg X.base Ng qg sg g cdg X.A X.stack s1 H1 Eg).tr pn xe) W) (hW : ∀ cls d σ' H', E cls d H' → W cls d σ' H')
    (hr : Room (k + 1) (X.A.deeper (envOfC qg sg s1.heap.objs.size g cdg))) (hN : Ng[i]? = some a) (hv : Vis sg a) (hd : (a == ("__debug__" : Str)) = false := by decide) (hcd : (a == ("__classdict__" : Str)) = false := by decide) :
    PE ((cxOf CXg X.prog X.w X.K X.mg X.base Ng qg sg g cdg X.A X.stack s1 H1 Eg).tr pn xe) (.Call (.Name a p1) [] [] p2) (fun σZ HZ Q => σZ[i]? = some (some (.ref f)) ∧ LmAt X f L HZ ∧ t E σ HZ Q) := by
  refine ⟨fun pinsZ sZ σZ HZ Q IZ ⟨hs, hL, ht⟩ => ?_⟩
  refine wpAny_Call_Name_kw (thn ((pe_var (pos := p1) (i := i) hN hv hd hcd).run pinsZ sZ σZ HZ (fun v G => v = .ref f ∧ G = HZ) IZ ⟨.ref f, hs, rfl, rfl⟩) fun u s2 ⟨v, H2, I1, r1, ev, eH⟩ => ?_)
  subst ev
  rw [eH] at I1
  obtain rfl : u = Value.ref f := r1
  obtain ⟨dV, c', ds, h1, h2, h3, h4⟩ := hL
  obtain ⟨od, sl, doc, pm, ctv, of1⟩ : ∃ (od : Option Addr) (sl : Array (Option Value)) (doc pm ctv : Value), s2.heap.get? f = some (⟨.type "function", od, .func (lfd L (X.env.qual ++ "<lambda>") (cloFrom X.env.cells L.scope.names []) dV doc pm ctv c'), sl⟩ : Obj) := (I1.hok f _ h1).1
  have hdf : (ds = [] ∧ dV = .none) ∨ (ds ≠ [] ∧ ∃ T, dV = .ref T ∧ s2.heap.get? T = some (PySem.W.kdv_tup ds)) := h4.imp id fun ⟨en, T, e1, e2⟩ => ⟨en, T, e1, (I1.hok T _ e2).1⟩
  refine PySem.W.callWith_F0 ⟨_, _, _, _, of1⟩ ?_
  have ck2 : CellsKept X s s2 HZ := ck.un (fun y c e => I.cell y c e) I1.base fun _ _ _ z => absurd (show _ ∈ ([] : List Addr) from z) (by simp)
  have rc : codeAny (model X.prog X.w) (X.A.deeper (envOfC qg sg s1.heap.objs.size g cdg)) (.call (.ref f) ⟨[], []⟩) (CR (L2.CX X.prog X.w) (envOfC qg sg s1.heap.objs.size g cdg :: X.stack) X.prog X.w HZ s2 Q E) s2 := by
    refine PySem.W.kla_callFunE hr.depth of1 rfl P.S.co P.S.gen rfl (codeO_at I1.hok h2) ?_
    refine P.bind s2 _ _ dV doc pm ctv c' ds h3 hdf _ _ _ _ ?_
    refine wpAny_newFunctionEnv P.S.nocell (fun ⟨n, _⟩ hy => P.S.par n (List.of_mem_zip hy).1) (fun hh hns hsb => ⟨I1.nolimit.fresh _ hsb, ?_⟩) P.S.kind
    show codeAny _ _ (.expr L.body (lmEnv X L s2.heap.objs.size f c')) _ _
    have kp : ∀ b o, s2.heap.get? b = some o → hh.get? b = some o := fun b o e => hsb.extBut b o (Nat.ne_of_lt (Heap.lt_size e)) (Heap.get?_push_of_some _ e)
    have J := lm_start (E := E) (L := L) (f := f) (c' := c') (tk := s2.toks + (L.bn.zip ds).length) I P.S I1.env0 hr.hd ck2 hns kp
    refine PySem.W.kla_codeExpr (wpAny_mono ((P.body _ _ s2 HZ E f c' (hr.deeper _)).run [] _ _ HZ Q J ht) (fun v s' hq => ?_) fun e s' hq => hq)
    obtain ⟨w', H', J', rv, q⟩ := hq
    exact ⟨w', H', J'.os, J'.bare, J'.base, J'.hok, rv, q⟩
  have hx : Passes (L2.CX X.prog X.w) ((cxOf CXg X.prog X.w X.K X.mg X.base Ng qg sg g cdg X.A X.stack s1 H1 Eg).tr pn xe) E := passes_call tk hW
  refine wpAny_call (codeAny_mono rc fun r s' hq => ?_)
  cases r with
  | error e => exact hx pinsZ σZ HZ s2 e s' I1 hq
  | ok fl =>
    cases fl with
    | ret u => exact I1.after hq
    | next => exact False.elim hq
    | brk => exact False.elim hq
    | cont => exact False.elim hq
/-- the def g that calls the one lambda that it gets; TT: what it makes of the lambda's reading -/
def GivesA (X : Cx) (Ng : List Str) (x : Str) (sg : Scope) (g : Addr) (cdg : Value) (bg : List Stmt) (a : Str) (TT : (XK → Hp → VK → Prop) → Hp → VK → Prop) : Prop :=
  ∀ (f : Addr) (s : Shared) (H : Hp) (Q : VK) (PH : Hp → Prop) (tl : XK → Hp → VK → Prop),
    (∀ (W : WX) (pn : List (Addr × Obj)) (xe : Value → Shared → Prop) (E : XK) (p1 p2 : Pos), Takes ((cxOf C8.CX0 X.prog X.w X.K X.mg X.base Ng x sg g cdg X.A X.stack s H C8.E0).tr pn xe) W → (∀ cls d σ' H', E cls d H' → W cls d σ' H') →
      PE ((cxOf C8.CX0 X.prog X.w X.K X.mg X.base Ng x sg g cdg X.A X.stack s H C8.E0).tr pn xe) (.Call (.Name a p1) [] [] p2) (fun σZ HZ Q => σZ[0]? = some (some (.ref f)) ∧ PH HZ ∧ tl E HZ Q)) →
    PH H → TT tl H Q → ∃ t, PSs (cxOf C8.CX0 X.prog X.w X.K X.mg X.base Ng x sg g cdg X.A X.stack s H C8.E0).nox bg t ∧ t { nx := fun _ H' => Q .non H', rt := Q } (L2.start Ng [.ref f]) H
/-- the def at g, told as a name of the module -/
structure AskD (K : PySem.W.Frag) (mg : Str → Option Value) (x : Str) (st : Stmt) (g : Addr) (cdg : Value) : Prop where
  m : mg x = some (.ref g)
  kp : PySem.W.keepIn K (.ref g) = true
  lk : ∃ (dV kV doc pm ct oc : Value) (an od : Option Addr) (osl : Array (Option Value)), K.lookup g = some ⟨oc, od, .func (PySem.W.fnOf x x (defArgs st) (defBody st) (defScope st) dV kV doc pm an cdg ct), osl⟩ ∧ L2.Binds K (PySem.W.fnOf x x (defArgs st) (defBody st) (defScope st) dV kV doc pm an cdg ct) (["call"] : List Str) []
  cd : PySem.W.codeIn K cdg x = true
theorem ask_code {TT : (XK → Hp → VK → Prop) → Hp → VK → Prop} {x : Str} {sg : Scope} {bg : List Stmt} {pg : Arguments} {g f : Addr} {cdg dV kV doc pm ct oc : Value} {an od : Option Addr} {osl : Array (Option Value)} {Ng : List Str} {k : Nat} {L : Lw} {t : XK → TE} {Q : VK} {H1 : Hp}
    (hNg : Ng[0]? = some ("call" : Str)) (hva : Vis sg "call") (hG : GivesA X Ng x sg g cdg bg "call" TT) (hr : Room (k + 2) X.A) (I : Inv X pins σ H s) (ck : CellsKept X s s1 H1) (e0 : Env0 X.prog X.w X.K X.mg X.base X.A X.stack s1 H1)
    (lk : X.K.lookup g = some ⟨oc, od, .func (PySem.W.fnOf x x pg bg sg dV kV doc pm an cdg ct), osl⟩) (hb : L2.Binds X.K (PySem.W.fnOf x x pg bg sg dV kV doc pm an cdg ct) (["call"] : List Str) []) (cd : PySem.W.codeIn X.K cdg x = true) (Sg : FnScope Ng ["call"] sg)
    (hL : LmAt X f L H1) (hP : LmP X k L t) (hT : TT (fun E H' Q' => t E σ H' Q') H1 Q) : codeAny (model X.prog X.w) X.A (.call (.ref g) ⟨[.ref f], []⟩) (CR C8.CX0 X.stack X.prog X.w H1 s1 Q C8.E0) s1 := by
  have kin : X.K.In s1.heap := e0.mod.kin.keeps fun b o z => (e0.bs b o z).1
  refine run_ofS (N := Ng) (ps := ["call"]) (us := [.ref f]) (vs := [.ref f]) lk cd Sg hr e0 (hb s1 [.ref f] kin rfl) (.cons rfl .nil) rfl fun hr' => ?_
  obtain ⟨t', ht', hq'⟩ := hG f s1 H1 Q (LmAt X f L) (fun E H' Q' => t E σ H' Q') (fun W pn xe E p1 p2 tk hW => pe_acts (i := 0) I ck hP tk hW hr' hNg hva) hL hT
  exact ⟨t', ht'.nox, hq'⟩
/-- x(e), e one of the lambdas that R tells -/
def tAsk (X : Cx) (k : Nat) (TT : (XK → Hp → VK → Prop) → Hp → VK → Prop) (te : TE) : TE := fun σ H Q => te σ H fun v H1 => ∃ (f : Addr) (L : Lw) (t : XK → TE), [v].head? = some (.ref f) ∧ [v].length = 1 ∧ LmAt X f L H1 ∧ LmP X k L t ∧ TT (fun E H' Q' => t E σ H' Q') H1 Q
theorem pe_ask {TT : (XK → Hp → VK → Prop) → Hp → VK → Prop} {x : Str} {st : Stmt} {g : Addr} {cdg : Value} {Ng : List Str} {k : Nat} {e : Expr} {te : TE} {p pos : Pos} (D : AskD X.K X.mg x st g cdg) (hg : Gl X x) (Sg : FnScope Ng ["call"] (defScope st)) (hNg : Ng[0]? = some ("call" : Str)) (hva : Vis (defScope st) "call")
    (hG : GivesA X Ng x (defScope st) g cdg (defBody st) "call" TT) (hr : Room (k + 2) X.A) (he : PE X e te) (hdb : (x == ("__debug__" : Str)) = false := by decide) (hs : starEach [e] X.env = (false, eval e X.env) :: starEach [] X.env := by rfl) :
    PE X (.Call (.Name x p) [e] [] pos) (tAsk X k TT te) := by
  refine ⟨fun pins s σ H Q I h => ?_⟩
  obtain ⟨dV, kV, doc, pm, ct, oc, an, od, osl, lk, hb⟩ := D.lk
  refine wpAny_Call_Name_kw (ld_glob I hg D.m ?_ hdb)
  have h : tCons te tNil σ H (fun vs H1 => ∃ (f : Addr) (L : Lw) (t : XK → TE), vs.head? = some (.ref f) ∧ vs.length = 1 ∧ LmAt X f L H1 ∧ LmP X k L t ∧ TT (fun E H' Q' => t E σ H' Q') H1 Q) := h
  refine PySem.W.callWith_K (h₀ := X.base) I.ok.mod.kin D.kp (thn ((pa_cons he pa_nil hs).run pos pins s σ H _ I h) fun us s1 ⟨vs, H1, I1, r, q⟩ => ⟨I1.kIn, ?_⟩) hs rfl
  obtain ⟨f, L, t, ev, el, hL, hP, hT⟩ := q
  obtain ⟨v, rfl⟩ : ∃ v, vs = [v] := List.length_eq_one_iff.mp el
  obtain rfl : v = V.ref f := Option.some.inj ev
  obtain rfl := Vals.ref1 r
  refine wpAny_call (codeAny_mono (ask_code hNg hva hG hr I1 (.self I1) I1.env0 lk hb D.cd Sg hL hP hT) fun r s2 hq => ?_)
  cases r with
  | error e => exact (show False from hq).elim
  | ok fl =>
    cases fl with
    | ret u => exact I1.after hq
    | next => exact False.elim hq
    | brk => exact False.elim hq
    | cont => exact False.elim hq
end
end AsAct

set_option maxHeartbeats 4000000
set_option autoImplicit false
/-! objects of a class of the program: methods as defs, fields as data. -/
namespace AsObj
open PySem PySem.Spec PyProof.Rows L2 AsSort AsKit
open Evl (Ex Ev EvT EvA)
/-- a statement that is never come to -/
def sNo : TS := fun _ _ _ => False
theorem ps_no {X : Cx} {st : Stmt} : PS X st sNo := ⟨fun _ _ _ _ _ _ h => h.elim⟩
theorem pss_no {X : Cx} {ss : List Stmt} : PSs X ss sNo := ⟨fun _ _ _ _ _ _ h => h.elim⟩
theorem pe_no {X : Cx} {e : Expr} : PE X e (fun _ _ _ => False) := ⟨fun _ _ _ _ _ _ h => h.elim⟩
/-- the statements of a class -/
def clsB : Stmt → List Stmt
  | .ClassDef (body := b) .. => b
  | _ => []
/-- a method -/
def DfM (K : PySem.W.Frag) (C : Addr) (m qual : Str) (st : Stmt) : Prop := ∃ f fd, FunD K m qual (defArgs st) (defBody st) (defScope st) [] [] f fd ∧ Meth K C m f
/-- the method that makes an object ready -/
def DfI (K : PySem.W.Frag) (C : Addr) (qual : Str) (st : Stmt) : Prop := ∃ f fd, FunD K "__init__" qual (defArgs st) (defBody st) (defScope st) [] [] f fd ∧ Mk K C f
/-- its promise: it may raise -/
def Mlx (P : Program) (w : World) (K : PySem.W.Frag) (mg : Str → Option Value) (base : Heap) (k : Nat) (C : Addr) (m : Str) (ps : List Str) (sp : Sp) : Prop := ∃ f fd, Cls K C ∧ Meth K C m f ∧ FnOk P w K mg base (L2.CX P w) k f fd ps sp ∧ Binds K fd ps []
/-- it does not raise -/
def Ml (P : Program) (w : World) (K : PySem.W.Frag) (mg : Str → Option Value) (base : Heap) (k : Nat) (C : Addr) (m : Str) (ps : List Str) (sp : Sp) : Prop := ∃ f fd, Cls K C ∧ Meth K C m f ∧ FnOk P w K mg base C8.CX0 k f fd ps sp ∧ Binds K fd ps []
def Mkx (P : Program) (w : World) (K : PySem.W.Frag) (mg : Str → Option Value) (base : Heap) (k : Nat) (x : Str) (C : Addr) (ps : List Str) (sp : Sp) : Prop := ∃ f fd, Mk K C f ∧ FnOk P w K mg base (L2.CX P w) k f fd ps sp ∧ mg x = some (.ref C) ∧ Binds K fd ps []
section
variable {P : Program} {w : World} {K : PySem.W.Frag} {mg : Str → Option Value} {base : Heap} {C : Addr} {m qual x : Str} {st : Stmt} {N ps : List Str} {k : Nat} {sp : Sp}
theorem mlx_of (c : Cls K C) (D : DfM K C m qual st) (S : FnScope N ps (defScope st)) (len : ∀ vs H Q E, sp vs H Q E → vs.length = ps.length)
    (hb : ∀ (kV doc pm : Value) (an : Option Addr) (cdv ct : Value) (us : List Value), us.length = ps.length → bindArgs (PySem.W.fnOf m qual (defArgs st) (defBody st) (defScope st) .none kV doc pm an cdv ct) ⟨us, []⟩ = pure (ps.zip us))
    (hbody : ∀ (f : Addr) (cdv : Value) (A : Around) (outer : List Env) (s : Shared) (H : Hp) (vs : List V) (Q : VK) (E : XK), Room k (A.deeper (envOfC qual (defScope st) s.heap.objs.size f cdv)) → sp vs H Q E →
      ∃ t, PSs (cxOf (L2.CX P w) P w K mg base N qual (defScope st) f cdv A outer s H E) (defBody st) t ∧ t { nx := fun _ H' => Q .non H', rt := Q } (start N vs) H) : Mlx P w K mg base (k + 1) C m ps sp := by
  obtain ⟨f, fd, F, M⟩ := D
  exact ⟨f, fd, c, M, F.ok S len fun cdv A outer s H vs Q E hr h => hbody f cdv A outer s H vs Q E hr h, F.bindsN hb⟩
theorem ml_of (c : Cls K C) (D : DfM K C m qual st) (S : FnScope N ps (defScope st)) (len : ∀ vs H Q E, sp vs H Q E → vs.length = ps.length)
    (hb : ∀ (kV doc pm : Value) (an : Option Addr) (cdv ct : Value) (us : List Value), us.length = ps.length → bindArgs (PySem.W.fnOf m qual (defArgs st) (defBody st) (defScope st) .none kV doc pm an cdv ct) ⟨us, []⟩ = pure (ps.zip us))
    (hbody : ∀ (f : Addr) (cdv : Value) (A : Around) (outer : List Env) (s : Shared) (H : Hp) (vs : List V) (Q : VK) (E : XK), Room k (A.deeper (envOfC qual (defScope st) s.heap.objs.size f cdv)) → sp vs H Q E →
      ∃ t, PSs (cxOf C8.CX0 P w K mg base N qual (defScope st) f cdv A outer s H E).nox (defBody st) t ∧ t { nx := fun _ H' => Q .non H', rt := Q } (start N vs) H) : Ml P w K mg base (k + 1) C m ps sp := by
  obtain ⟨f, fd, F, M⟩ := D
  exact ⟨f, fd, c, M, F.ok S len fun cdv A outer s H vs Q E hr h => let ⟨t, z, q⟩ := hbody f cdv A outer s H vs Q E hr h; ⟨t, PSs.nox z, q⟩, F.bindsN hb⟩
theorem mkx_of (D : DfI K C qual st) (hm : mg x = some (.ref C)) (S : FnScope N ps (defScope st)) (len : ∀ vs H Q E, sp vs H Q E → vs.length = ps.length)
    (hb : ∀ (kV doc pm : Value) (an : Option Addr) (cdv ct : Value) (us : List Value), us.length = ps.length → bindArgs (PySem.W.fnOf "__init__" qual (defArgs st) (defBody st) (defScope st) .none kV doc pm an cdv ct) ⟨us, []⟩ = pure (ps.zip us))
    (hbody : ∀ (f : Addr) (cdv : Value) (A : Around) (outer : List Env) (s : Shared) (H : Hp) (vs : List V) (Q : VK) (E : XK), Room k (A.deeper (envOfC qual (defScope st) s.heap.objs.size f cdv)) → sp vs H Q E →
      ∃ t, PSs (cxOf (L2.CX P w) P w K mg base N qual (defScope st) f cdv A outer s H E) (defBody st) t ∧ t { nx := fun _ H' => Q .non H', rt := Q } (start N vs) H) : Mkx P w K mg base (k + 1) x C ps sp := by
  obtain ⟨f, fd, F, M⟩ := D
  exact ⟨f, fd, M, F.ok S len fun cdv A outer s H vs Q E hr h => hbody f cdv A outer s H vs Q E hr h, hm, F.bindsN hb⟩
end
section
variable {X : Cx} {k j : Nat} {C : Addr} {x m : Str} {ps : List Str} {sp : Sp} {p pos apos : Pos} {e o : Expr} {es : List Expr} {ta : TE} {t : TA} {E : XK} {pl : Sem Bool}
/-- calls of methods: one that may raise, one that does not; without arguments; an object made -/
theorem pe_mx (M : Mlx X.prog X.w X.K X.mg X.base k C m ps sp) (hr : Room j X.A) (hk : k ≤ j) (hx : Passes (L2.CX X.prog X.w) X E) (ho : PE X o ta) (ha : PA X (e :: es) t)
    (hst : starEach (e :: es) X.env = (false, eval e X.env) :: starEach es X.env := by rfl) (hpl : (backTo pos (starEach es X.env)).any (·.1) = false := by rfl)
    (ht : eval (.Call (.Attribute o m apos) (e :: es) [] pos) X.env = (do
      let ov ← eval o X.env
      standAt apos.atName
      let (f, first) ← holding [ov] (getMethod ov m pl)
      callWith pos f first (backTo pos (starEach (e :: es) X.env)) (backToKw pos (keywordEach [] X.env))) := by rfl) : PE X (.Call (.Attribute o m apos) (e :: es) [] pos) (tMeth C m sp [] E ta t) := by
  obtain ⟨f, fd, c, M, F, b⟩ := M
  exact pe_meth (pl := pl) ho c M F (hr.mono hk) b .nil hx ha hst hpl ht
theorem pe_mx0 (M : Mlx X.prog X.w X.K X.mg X.base k C m ps sp) (hr : Room j X.A) (hk : k ≤ j) (hx : Passes (L2.CX X.prog X.w) X E) (ho : PE X o ta)
    (ht : eval (.Call (.Attribute o m apos) [] [] pos) X.env = (do
      let ov ← eval o X.env
      standAt apos.atName
      let (f, first) ← holding [ov] (getMethod ov m pl)
      callWith pos f first (backTo pos (starEach [] X.env)) (backToKw pos (keywordEach [] X.env))) := by rfl) : PE X (.Call (.Attribute o m apos) [] [] pos) (tMeth C m sp [] E ta tNil) := by
  obtain ⟨f, fd, c, M, F, b⟩ := M
  exact pe_meth0 (pl := pl) ho c M F (hr.mono hk) b .nil hx ht
theorem pe_ml (M : Ml X.prog X.w X.K X.mg X.base k C m ps sp) (hr : Room j X.A) (hk : k ≤ j) (ho : PE X o ta) (ha : PA X (e :: es) t)
    (hst : starEach (e :: es) X.env = (false, eval e X.env) :: starEach es X.env := by rfl) (hpl : (backTo pos (starEach es X.env)).any (·.1) = false := by rfl)
    (ht : eval (.Call (.Attribute o m apos) (e :: es) [] pos) X.env = (do
      let ov ← eval o X.env
      standAt apos.atName
      let (f, first) ← holding [ov] (getMethod ov m pl)
      callWith pos f first (backTo pos (starEach (e :: es) X.env)) (backToKw pos (keywordEach [] X.env))) := by rfl) : PE X (.Call (.Attribute o m apos) (e :: es) [] pos) (tMeth C m sp [] C8.E0 ta t) := by
  obtain ⟨f, fd, c, M, F, b⟩ := M
  exact pe_meth (pl := pl) ho c M F (hr.mono hk) b .nil C8.pass0 ha hst hpl ht
theorem pe_ml0 (M : Ml X.prog X.w X.K X.mg X.base k C m ps sp) (hr : Room j X.A) (hk : k ≤ j) (ho : PE X o ta)
    (ht : eval (.Call (.Attribute o m apos) [] [] pos) X.env = (do
      let ov ← eval o X.env
      standAt apos.atName
      let (f, first) ← holding [ov] (getMethod ov m pl)
      callWith pos f first (backTo pos (starEach [] X.env)) (backToKw pos (keywordEach [] X.env))) := by rfl) : PE X (.Call (.Attribute o m apos) [] [] pos) (tMeth C m sp [] C8.E0 ta tNil) := by
  obtain ⟨f, fd, c, M, F, b⟩ := M
  exact pe_meth0 (pl := pl) ho c M F (hr.mono hk) b .nil C8.pass0 ht
theorem pe_mkx (M : Mkx X.prog X.w X.K X.mg X.base k x C ps sp) (hr : Room j X.A) (hk : k + 1 ≤ j) (hg : Gl X x) (hx : Passes (L2.CX X.prog X.w) X E) (ha : PA X (e :: es) t) (hdb : (x == ("__debug__" : Str)) = false := by decide)
    (he : starEach (e :: es) X.env = (false, eval e X.env) :: starEach es X.env := by rfl) (hpl : (backTo pos (starEach es X.env)).any (·.1) = false := by rfl) : PE X (.Call (.Name x p) (e :: es) [] pos) (tMake C sp [] E t) := by
  obtain ⟨f, fd, M, F, hm, b⟩ := M
  exact pe_make M F (hr.mono hk) hg hm b .nil hx ha hdb he hpl
end
theorem dpAll_take {K : PySem.W.Frag} {G : Hp} : ∀ {vs : List V} {ds : List PyData} (n : Nat), DpAll K G vs ds → DpAll K G (vs.take n) (ds.take n)
  | _, _, 0, _ => .nil
  | [], [], _ + 1, .nil => .nil
  | _ :: _, _ :: _, n + 1, .cons a b => .cons a (dpAll_take n b)
theorem putF_len {f : Str} {v : V} : ∀ {fs : List (Str × V)} {n : Nat}, fs.length ≤ n → (putF f v fs).length ≤ n + 1
  | [], n, _ => by show 1 ≤ n + 1; omega
  | (g, x) :: r, 0, h => by simp at h
  | (g, x) :: r, n + 1, h => by
    unfold putF
    split
    · simp only [List.length_cons] at h ⊢; omega
    · have := putF_len (f := f) (v := v) (fs := r) (n := n) (by simpa using h)
      simp only [List.length_cons]; omega
section
variable {K : PySem.W.Frag} {σ : L2.St} {H : Hp} {d : PyData}
/-- o.f, o in a slot -/
theorem d_fld {i : Nat} {a C dx : Addr} {fs : List (Str × V)} {f : Str} {v : V} (hs : σ[i]? = some (some (.ref a))) (ha : H a = some (.ins C dx fs)) (c : Cls K C) (n : NoAttr K C f) (l : fs.lookup f = some v) (hv : Dp K H v d) : EvD K (tFld K (tVar i) f) σ H d := fun H1 x Q q =>
  ⟨_, hs, a, C, dx, fs, v, rfl, x _ _ ha, c, n, l, q v H1 (Ex.refl H1) (dp_ex x hv)⟩
end
end AsObj

set_option maxHeartbeats 4000000
set_option autoImplicit false
/-! the law's own defs: a reader drawn. -/
namespace K14
open PySem PySem.Spec PyProof.Rows L2 AsSort AsKit AsToo AsObj
open Evl (Ex Ev EvT EvA)
section
variable {P : Program} {w : World} {K : PySem.W.Frag} {mg : Str → Option Value} {base : Heap}
abbrev sReader : Stmt := top 96
abbrev nReader : List Str := ["row", "letters", "most", "size", "rows", "sign", "stand"]
theorem sc_reader : FnScope nReader ["row", "letters", "most"] (defScope sReader) := ⟨rfl, rfl, rfl, by decide +kernel, rfl, by decide +kernel, by decide +kernel⟩
def spReader (K : PySem.W.Frag) : Sp := fun vs H Q _ => ∃ (r : Addr) (S : Addr × List Int) (y : Str) (m : Nat), vs = [.ref r, .str y, .int (m : Int)] ∧ Row K S H r ∧ isLetS y = true ∧ 1 ≤ m ∧ m ≤ 100 ∧
  ∀ (v : V) (M : Mach) (H' : Hp), Dp K H' v M.d → M.Ok → M.y = y → M.rs.length ≤ m → Bt r H H' → Row K S H' r → Q v H'
abbrev tRowL (K : PySem.W.Frag) : TE := tLc (iStr (tVar 1)) (gName 5) tYes (tCall (spTaken K) [] C8.E0 (tCons (tVar 0) (tCons (tVar 3) tNil))) [5]
theorem ev_rowL {S : Addr × List Int} {r : Addr} {y : Str} {size : Nat} {σ : L2.St} {H1 : Hp} {Q : VK} (h0 : σ[0]? = some (some (.ref r))) (h1 : σ[1]? = some (some (.str y))) (h3 : σ[3]? = some (some (.int (size : Int)))) (hR : Row K S H1 r) (hs : 1 ≤ size) (hs2 : size ≤ 1000) (hy : y.length ≤ 1000)
    (q : ∀ v H2 (ns : List Nat), ns.length = y.length → (∀ n ∈ ns, n < size) → Bt r H1 H2 → Row K S H2 r → Dp K H2 v (rowP ns) → Q v H2) : tCB (rTupQ K) (tCons (tRowL K) tNil) σ H1 Q := by
  have hyl : y.cps.toList.length = y.length := Array.length_toList
  refine ⟨.str y, h1, y, rfl, fun D hD => ?_⟩
  have nD := row_new (o := .lst []) hR hD
  have w0 : (wipe σ [5])[0]? = some (some (.ref r)) := by rw [wipe_out (by simp)]; exact h0
  have w3 : (wipe σ [5])[3]? = some (some (.int (size : Int))) := by rw [wipe_out (by simp)]; exact h3
  refine lc_str (fun i H' => Bt r H1 H' ∧ Row K S H' r ∧ ∃ ns : List Nat, H' D = some (.lst (ns.map fun (n : Nat) => V.int n)) ∧ ns.length = i ∧ ∀ n ∈ ns, n < size) ⟨nD.2.2, nD.2.1, [], upd_same, rfl, fun _ h => nomatch h⟩ (fun i c H' hi p => ?_) fun H' p => ?_
  · obtain ⟨p1, p2, ns, p3, p4, p5⟩ := p
    refine ⟨by show (((σ.set 5 none).set 5 _).set 5 none) = σ.set 5 none; rw [List.set_set, List.set_set], ?_⟩
    have s0 : ((wipe σ [5]).set 5 (some (V.str ⟨#[c]⟩)))[0]? = some (some (.ref r)) := by rw [List.getElem?_set_ne (by decide)]; exact w0
    have s3 : ((wipe σ [5]).set 5 (some (V.str ⟨#[c]⟩)))[3]? = some (some (.int (size : Int))) := by rw [List.getElem?_set_ne (by decide)]; exact w3
    refine ⟨.ref r, s0, .int (size : Int), s3, r, S, (size : Int), rfl, p2, by omega, by omega, fun k H2 hk b2 R2 => ?_⟩
    have h3' : H2 D = some (.lst (ns.map fun (n : Nat) => V.int n)) := b2 D _ nD.1 p3
    have kk := row_keep (o := .lst ((ns.map fun (n : Nat) => V.int n) ++ [.int (k : Int)])) hR hD (p1.trans b2) R2
    have hi2 : i < y.cps.toList.length := (List.getElem?_eq_some_iff.mp hi).1
    refine ⟨_, h3', Evl.sz_lt (by rw [List.length_map, p4]; omega), kk.2, kk.1, ns ++ [k], by rw [upd_same, List.map_append]; rfl, by rw [List.length_append, p4]; rfl, fun n hn => ?_⟩
    rcases List.mem_append.mp hn with hn | hn
    · exact p5 n hn
    · rw [List.mem_singleton.mp hn]
      omega
  · obtain ⟨p1, p2, ns, p3, p4, p5⟩ := p
    have hdp : ∀ G, DpAll K G (ns.map fun (n : Nat) => V.int n) (ns.map fun (n : Nat) => PyData.int n) := fun G => by
      induction ns with
      | nil => exact .nil
      | cons n ns ih => exact .cons (.int _) (by
        clear p3 p4
        have go : ∀ l : List Nat, DpAll K G (l.map fun (n : Nat) => V.int n) (l.map fun (n : Nat) => PyData.int n) := fun l => by
          induction l with
          | nil => exact .nil
          | cons a l ih => exact .cons (.int _) ih
        exact go ns)
    refine ⟨D, _, rfl, .inl ⟨Evl.sq_of p3, fun l nl => ?_⟩⟩
    have z := row_new (o := .tup (ns.map fun (n : Nat) => V.int n)) p2 nl
    exact q _ _ ns (by rw [p4, hyl]) p5 (p1.trans z.2.2) z.2.1 (.tup (Evl.st_of upd_same) (hdp _))
theorem imm_rowP (r : List Nat) : imm (rowP r) = true := by
  show immAll (r.map fun (n : Nat) => PyData.int n) = true
  exact immAll_of fun d hd => by
    obtain ⟨n, _, rfl⟩ := List.mem_map.mp hd
    rfl
theorem c_lawreader (D : Df K mg "_law_reader" sReader) (hb : Bl mg) (C1 : Cl P w K mg base 1 "_law_taken" (spTaken K) []) : Cl P w K mg base 2 "_law_reader" (spReader K) [] := by
  refine cl_of D sc_reader (fun vs H Q E ⟨r, S, y, m, h, _⟩ => by rw [h]; rfl) (fun _ _ _ _ _ _ us hl => match us, hl with | [_, _, _], _ => rfl) fun f cdv A outer s H vs Q E hr h => ?_
  obtain ⟨r, S, y, m, rfl, hR, hy, hm, hm2, q⟩ := h
  refine ⟨_, pss_cons (ps_set (i := 3) sc_reader.nd rfl (.inr rfl) (pe_op op_add pe_int (C8.pe_c C1 hr (by decide) (by rfl) (pa_cons (pv 0) (pa_cons (pv 2) pa_nil)))))
    (pss_cons (ps_setLcn (i := 4) (te := tCB (rTupQ K) (tCons (tRowL K) tNil)) 6 sc_reader.nd (pi_range1 (by rfl) (hb _ (by decide +kernel)) (pa_cons (pv 3) pa_nil)) (fun _ _ _ _ _ => pts_nil)
      (fun _ _ _ _ _ => pe_tupQ hb (pe_lcn (te := tCall (spTaken K) [] C8.E0 (tCons (tVar 0) (tCons (tVar 3) tNil))) 5 sc_reader.nd (pi_str (pv 1)) (fun _ _ _ _ _ => pts_nil) (fun _ _ _ _ _ => C8.pe_c C1 hr (by decide) (by rfl) (pa_cons (pv 0) (pa_cons (pv 3) pa_nil))) (fun _ _ _ _ _ => pg_name sc_reader.nd rfl (.inl rfl)) (blkOk_by (N := nReader) (own := [("sign", 5)]) rfl) rfl))
      (fun _ _ _ _ _ => pg_name sc_reader.nd rfl (.inl rfl)) (blkOk_by (N := nReader) (sc := defScope sReader) (own := [("stand", 6)]) (by decide +kernel)) rfl rfl rfl (sw_true rfl rfl rfl (by decide +kernel)))
    (pss_one (ps_ret (pe_tup (pa_cons (pv 1) (pa_cons (pe_tupQ hb (pv 4)) (pa_cons (pe_tupQ hb (pe_lcn (te := tOp rEq (tCall (spTaken K) [] C8.E0 (tCons (tVar 0) (tCons (tC (.int 2)) tNil))) (tC (.int 0))) 6 sc_reader.nd (pi_range1 (by rfl) (hb _ (by decide +kernel)) (pa_cons (pv 3) pa_nil)) (fun _ _ _ _ _ => pts_nil)
      (fun _ _ _ _ _ => pe_cmpR op_eq (C8.pe_c C1 hr (by decide) (by rfl) (pa_cons (pv 0) (pa_cons pe_int pa_nil))) pe_int (nomark _))
      (fun _ _ _ _ _ => pg_name sc_reader.nd rfl (.inl rfl)) (blkOk_by (N := nReader) (sc := defScope sReader) (own := [("stand", 6)]) (by decide +kernel)) rfl)) pa_nil))))))), ?_⟩
  have hyl : y.length ≤ 4 := by
    have := hy
    unfold isLetS at this
    simp only [Bool.and_eq_true, decide_eq_true_eq] at this
    omega
  -- size
  refine ⟨.ref r, rfl, .int (m : Int), rfl, r, S, (m : Int), rfl, hR, by omega, by omega, fun k H1 hk hb1 hR1 => ?_⟩
  refine ⟨_, _, rfl, rfl, ?_⟩
  obtain ⟨size, esz⟩ : ∃ size : Nat, size = k + 1 := ⟨_, rfl⟩
  have e1 : ((1 : Int) + (k : Int)) = (size : Int) := by omega
  show gName 3 (V.int (1 + (k : Int))) _ H1 _
  rw [e1]
  have hs1 : 1 ≤ size := by omega
  have hs2 : size ≤ m := by omega
  -- rows
  refine ⟨.int (size : Int), rfl, _, rfl, by omega, by omega, fun D hD => ?_⟩
  have nD := row_new (o := .lst []) hR1 hD
  have himm : ∀ rs : List (List Nat), immAll (rs.map rowP) = true := fun rs => immAll_of fun d hd => by
    obtain ⟨p, _, rfl⟩ := List.mem_map.mp hd
    exact imm_rowP p
  refine lc_range (lo := 0) (n := size) (fun i H' => Bt r H1 H' ∧ Row K S H' r ∧ ∃ (acc : List V) (rs : List (List Nat)), H' D = some (.lst acc) ∧ DpAll K H' acc (rs.map rowP) ∧ rs.length = i ∧ ∀ q ∈ rs, q.length = y.length ∧ ∀ n ∈ q, n < size) ⟨nD.2.2, nD.2.1, [], [], upd_same, .nil, rfl, fun _ h => nomatch h⟩ (fun i H' hi p => ?_) fun H' p => ?_
  · obtain ⟨p1, p2, acc, rs, p3, p4, p5, p6⟩ := p
    refine ⟨rfl, ?_⟩
    refine ev_rowL (S := S) (r := r) (y := y) (size := size) rfl rfl rfl p2 hs1 (by omega) (by omega) fun v H2 ns l1 l2 b2 R2 hv => ?_
    have h3 : H2 D = some (.lst acc) := b2 D _ nD.1 p3
    have kk := row_keep (o := .lst (acc ++ [v])) hR1 hD (p1.trans b2) R2
    refine ⟨acc, h3, Evl.sz_lt (by rw [dpAll_len p4, List.length_map, p5]; omega), kk.2, kk.1, acc ++ [v], rs ++ [ns], upd_same, ?_, by rw [List.length_append, p5]; rfl, fun q hq => ?_⟩
    · rw [List.map_append]
      exact dpAll_snoc (dp_tu (tu_lst h3) (imm_rowP ns) hv) (dpAll_tu (tu_lst h3) (himm rs) (dpAll_tu (tu_bt p2 b2) (himm rs) p4))
    · rcases List.mem_append.mp hq with hq | hq
      · exact p6 q hq
      · rw [List.mem_singleton.mp hq]
        exact ⟨l1, l2⟩
  · obtain ⟨p1, p2, acc, rs, p3, p4, p5, p6⟩ := p
    -- the answer
    refine ⟨.str y, rfl, .ref D, rfl, D, acc, rfl, .inl ⟨Evl.sq_of p3, fun l nl => ?_⟩⟩
    have z := row_new (o := .tup acc) p2 nl
    obtain ⟨H2, eH2⟩ : ∃ H2, H2 = upd H' l (.tup acc) := ⟨_, rfl⟩
    rw [← eH2] at z ⊢
    have hT : Dp K H2 (.ref l) (.tuple (rs.map rowP)) := .tup (Evl.st_of (by rw [eH2, upd_same])) (dpAll_tu (tu_bt p2 z.2.2) (himm rs) p4)
    refine ⟨.int (size : Int), rfl, _, rfl, by omega, by omega, fun D2 hD2 => ?_⟩
    have nD2 := row_new (o := .lst []) z.2.1 hD2
    refine lc_range (lo := 0) (n := size) (fun i H' => Bt r H2 H' ∧ Row K S H' r ∧ ∃ (bs : List Bool), H' D2 = some (.lst (bs.map V.bl)) ∧ bs.length = i) ⟨nD2.2.2, nD2.2.1, [], upd_same, rfl⟩ (fun i H3 hi w => ?_) fun H3 w => ?_
    · obtain ⟨w1, w2, bs, w3, w4⟩ := w
      refine ⟨rfl, ?_⟩
      refine ⟨.ref r, rfl, r, S, 2, rfl, w2, by omega, by omega, fun k2 H4 hk2 b4 R4 => ?_⟩
      have h3 : H4 D2 = some (.lst (bs.map V.bl)) := b4 D2 _ nD2.1 w3
      have kk := row_keep (o := .lst (bs.map V.bl ++ [V.bl (decide (V.int (k2 : Int) = V.int 0))])) z.2.1 hD2 (w1.trans b4) R4
      exact ⟨rfl, _, h3, Evl.sz_lt (by rw [List.length_map, w4]; omega), kk.2, kk.1, bs ++ [decide (V.int (k2 : Int) = V.int 0)], by rw [upd_same, List.map_append]; rfl, by rw [List.length_append, w4]; rfl⟩
    · obtain ⟨w1, w2, bs, w3, w4⟩ := w
      refine ⟨D2, _, rfl, .inl ⟨Evl.sq_of w3, fun l2 nl2 => ?_⟩⟩
      have z2 := row_new (o := .tup (bs.map V.bl)) w2 nl2
      refine ⟨by show 3 ≤ sizeLine; decide, fun l3 nl3 => ?_⟩
      have z3 := row_new (o := .tup [.str y, .ref l, .ref l2]) z2.2.1 nl3
      have b25 := w1.trans (z2.2.2.trans z3.2.2)
      have hbs : ∀ G, DpAll K G (bs.map V.bl) (bs.map PyData.bool) := fun G => by
        clear w3 w4 z2 z3 nl2 nl3 b25
        induction bs with
        | nil => exact .nil
        | cons b bs ih => exact .cons (.bl _) ih
      have e2 : Ex (upd H3 l2 (.tup (bs.map V.bl))) (upd (upd H3 l2 (.tup (bs.map V.bl))) l3 (.tup [.str y, .ref l, .ref l2])) := Ex.new nl3
      refine q _ ⟨y, rs, bs⟩ _ (.tup (Evl.st_of upd_same) (.cons (.str y) (.cons (dp_tu (tu_bt z.2.1 b25) (himm rs) hT) (.cons (.tup (Evl.st_of (e2 _ _ upd_same)) (hbs _)) .nil)))) ⟨hy, hyl, by show 1 ≤ rs.length; omega, by show rs.length ≤ 200; omega, by show bs.length = rs.length; omega, fun q hq => ?_⟩ rfl (by show rs.length ≤ m; omega) (((hb1.trans p1).trans z.2.2).trans b25) z3.2.1
      obtain ⟨g1, g2⟩ := p6 q hq
      exact ⟨g1, fun n hn => by show n < rs.length; rw [p5]; exact g2 n hn⟩
end
end K14

set_option maxHeartbeats 4000000
set_option autoImplicit false
/-! a class that is called and does not raise. -/
namespace AsObj
open PySem PySem.Spec PyProof.Rows L2 AsSort AsKit
open Evl (Ex Ev EvT EvA)
def Mkp (P : Program) (w : World) (K : PySem.W.Frag) (mg : Str → Option Value) (base : Heap) (k : Nat) (x : Str) (C : Addr) (ps : List Str) (sp : Sp) : Prop := ∃ f fd, Mk K C f ∧ FnOk P w K mg base C8.CX0 k f fd ps sp ∧ mg x = some (.ref C) ∧ Binds K fd ps []
section
variable {P : Program} {w : World} {K : PySem.W.Frag} {mg : Str → Option Value} {base : Heap} {C : Addr} {m qual x : Str} {st : Stmt} {N ps : List Str} {k : Nat} {sp : Sp}
theorem mkp_of (D : DfI K C qual st) (hm : mg x = some (.ref C)) (S : FnScope N ps (defScope st)) (len : ∀ vs H Q E, sp vs H Q E → vs.length = ps.length)
    (hb : ∀ (kV doc pm : Value) (an : Option Addr) (cdv ct : Value) (us : List Value), us.length = ps.length → bindArgs (PySem.W.fnOf "__init__" qual (defArgs st) (defBody st) (defScope st) .none kV doc pm an cdv ct) ⟨us, []⟩ = pure (ps.zip us))
    (hbody : ∀ (f : Addr) (cdv : Value) (A : Around) (outer : List Env) (s : Shared) (H : Hp) (vs : List V) (Q : VK) (E : XK), Room k (A.deeper (envOfC qual (defScope st) s.heap.objs.size f cdv)) → sp vs H Q E →
      ∃ t, PSs (cxOf C8.CX0 P w K mg base N qual (defScope st) f cdv A outer s H E).nox (defBody st) t ∧ t { nx := fun _ H' => Q .non H', rt := Q } (start N vs) H) : Mkp P w K mg base (k + 1) x C ps sp := by
  obtain ⟨f, fd, F, M⟩ := D
  exact ⟨f, fd, M, F.ok S len fun cdv A outer s H vs Q E hr h => let ⟨t, z, q⟩ := hbody f cdv A outer s H vs Q E hr h; ⟨t, PSs.nox z, q⟩, hm, F.bindsN hb⟩
end
section
variable {X : Cx} {k j : Nat} {C : Addr} {x m : Str} {ps : List Str} {sp : Sp} {p pos apos : Pos} {e o : Expr} {es : List Expr} {ta : TE} {t : TA} {E : XK} {pl : Sem Bool}
theorem pe_mkp (M : Mkp X.prog X.w X.K X.mg X.base k x C ps sp) (hr : Room j X.A) (hk : k + 1 ≤ j) (hg : Gl X x) (ha : PA X (e :: es) t) (hdb : (x == ("__debug__" : Str)) = false := by decide)
    (he : starEach (e :: es) X.env = (false, eval e X.env) :: starEach es X.env := by rfl) (hpl : (backTo pos (starEach es X.env)).any (·.1) = false := by rfl) : PE X (.Call (.Name x p) (e :: es) [] pos) (tMake C sp [] C8.E0 t) := by
  obtain ⟨f, fd, M, F, hm, b⟩ := M
  exact pe_make M F (hr.mono hk) hg hm b .nil C8.pass0 ha hdb he hpl
end
end AsObj

set_option maxHeartbeats 4000000
set_option autoImplicit false
/-! lots of stands, as numbers with a bit for each stand. -/
namespace AsLot
/-- the lot behind the stands of a lot -/
def lotOr : List Nat → Nat → Nat
  | [], _ => 0
  | r :: rs, lot => (if lot.testBit 0 then r else 0) ||| lotOr rs (lot / 2)
theorem or_ite (b : Bool) (r j : Nat) : ((if b = true then r else 0) : Nat).testBit j = (b && r.testBit j) := by
  cases b <;> simp
theorem lotOr_bit : ∀ (rs : List Nat) (lot j : Nat), (lotOr rs lot).testBit j = true ↔ ∃ i r, rs[i]? = some r ∧ lot.testBit i = true ∧ r.testBit j = true
  | [], lot, j => by simp [lotOr]
  | r :: rs, lot, j => by
    unfold lotOr
    rw [Nat.testBit_or, or_ite, Bool.or_eq_true, Bool.and_eq_true, lotOr_bit rs (lot / 2) j]
    constructor
    · rintro (⟨a, b⟩ | ⟨i, x, h1, h2, h3⟩)
      · exact ⟨0, r, rfl, a, b⟩
      · exact ⟨i + 1, x, by simpa using h1, by rw [Nat.testBit_succ]; exact h2, h3⟩
    · rintro ⟨i, x, h1, h2, h3⟩
      cases i with
      | zero =>
        have e : r = x := by simpa using h1
        subst e
        exact .inl ⟨h2, h3⟩
      | succ i => exact .inr ⟨i, x, by simpa using h1, by rw [Nat.testBit_succ] at h2; exact h2, h3⟩
theorem bool_ext {a b : Bool} (h : a = true ↔ b = true) : a = b := by
  cases a <;> cases b <;> simp_all
theorem lotOr_app : ∀ (a b : List Nat) (lot : Nat), lotOr (a ++ b) lot = lotOr a lot ||| lotOr b (lot / 2 ^ a.length)
  | [], b, lot => by simp [lotOr]
  | r :: a, b, lot => by
    rw [List.cons_append]
    show (if lot.testBit 0 then r else 0) ||| lotOr (a ++ b) (lot / 2) = ((if lot.testBit 0 then r else 0) ||| lotOr a (lot / 2)) ||| _
    rw [lotOr_app a b (lot / 2), Nat.or_assoc, List.length_cons, Nat.div_div_eq_div_mul, Nat.pow_succ, Nat.mul_comm 2]
theorem lotOr_zero : ∀ rs : List Nat, lotOr rs 0 = 0
  | [] => rfl
  | r :: rs => by
    unfold lotOr
    rw [Nat.zero_div, lotOr_zero rs]
    simp
theorem lotOr_snoc (a : List Nat) (r lot : Nat) : lotOr (a ++ [r]) lot = lotOr a lot ||| (if lot.testBit a.length then r else 0) := by
  rw [lotOr_app]
  congr 1
  unfold lotOr lotOr
  rw [Nat.or_zero]
  have : (lot / 2 ^ a.length).testBit 0 = lot.testBit a.length := by
    rw [Nat.testBit_div_two_pow, Nat.zero_add]
  rw [this]
/-- what lies beyond the rows says nothing -/
theorem lotOr_mod : ∀ (rs : List Nat) (n lot : Nat), rs.length ≤ n → lotOr rs (lot % 2 ^ n) = lotOr rs lot
  | rs, n, lot, h => by
    refine Nat.eq_of_testBit_eq fun j => bool_ext ?_
    rw [lotOr_bit, lotOr_bit]
    constructor
    · rintro ⟨i, r, h1, h2, h3⟩
      rw [Nat.testBit_mod_two_pow, Bool.and_eq_true] at h2
      exact ⟨i, r, h1, h2.2, h3⟩
    · rintro ⟨i, r, h1, h2, h3⟩
      have := (List.getElem?_eq_some_iff.mp h1).1
      exact ⟨i, r, h1, by rw [Nat.testBit_mod_two_pow, Bool.and_eq_true]; exact ⟨decide_eq_true (by omega), h2⟩, h3⟩
theorem lt_of_bits {n x : Nat} (h : ∀ j, x.testBit j = true → j < n) : x < 2 ^ n := by
  refine Nat.lt_pow_two_of_testBit x fun i hi => ?_
  cases q : x.testBit i with
  | false => rfl
  | true => have := h i q; omega
theorem bit_lt {x n j : Nat} (hx : x < 2 ^ n) (h : x.testBit j = true) : j < n := by
  have := Nat.ge_two_pow_of_testBit h
  exact (Nat.pow_lt_pow_iff_right (by decide : 1 < 2)).mp (Nat.lt_of_le_of_lt this hx)
theorem lotOr_lt {rs : List Nat} {n : Nat} (h : ∀ r ∈ rs, r < 2 ^ n) (lot : Nat) : lotOr rs lot < 2 ^ n := lt_of_bits fun j hj => by
  obtain ⟨i, r, h1, _, h3⟩ := (lotOr_bit rs lot j).mp hj
  exact bit_lt (h r (List.mem_of_getElem? h1)) h3
/-- a part of eight -/
def partOr (rows : List Nat) (first part : Nat) : Nat := lotOr ((rows.drop first).take 8) part
/-- eight more -/
theorem lotOr_part (rows : List Nat) (lot k : Nat) : lotOr (rows.take (k + 8)) lot = lotOr (rows.take k) lot ||| partOr rows k (lot / 2 ^ k % 256) := by
  unfold partOr
  have e : (256 : Nat) = 2 ^ 8 := by decide
  rw [e, lotOr_mod _ 8 _ (by rw [List.length_take]; omega)]
  by_cases h : k ≤ rows.length
  · have e2 : rows.take (k + 8) = rows.take k ++ (rows.drop k).take 8 := by rw [List.take_add]
    have e3 : (rows.take k).length = k := by rw [List.length_take]; omega
    rw [e2, lotOr_app, e3]
  · rw [List.drop_eq_nil_of_le (by omega), List.take_of_length_le (by omega), List.take_of_length_le (by omega)]
    simp [lotOr]
theorem lotOr_end (rows : List Nat) (lot k : Nat) (h : lot / 2 ^ k = 0) : lotOr (rows.take k) lot = lotOr rows lot := by
  by_cases hk : k ≤ rows.length
  · have e3 : (rows.take k).length = k := by rw [List.length_take]; omega
    have := lotOr_app (rows.take k) (rows.drop k) lot
    rw [List.take_append_drop, e3, h, lotOr_zero, Nat.or_zero] at this
    exact this.symm
  · rw [List.take_of_length_le (by omega)]
/-- one more of a part -/
theorem part_step (rows : List Nat) (first part at_ : Nat) (h8 : at_ < 8) (hin : part.testBit at_ = true → first + at_ < rows.length) : lotOr (((rows.drop first).take 8).take (at_ + 1)) part = lotOr (((rows.drop first).take 8).take at_) part ||| (if part.testBit at_ = true then rows.getD (first + at_) 0 else 0) := by
  rw [List.take_take, List.take_take, Nat.min_eq_left (by omega : at_ + 1 ≤ 8), Nat.min_eq_left (by omega : at_ ≤ 8)]
  by_cases h : first + at_ < rows.length
  · have e : ((rows.drop first).take (at_ + 1)) = (rows.drop first).take at_ ++ [rows.getD (first + at_) 0] := by
      rw [List.take_add_one, List.getElem?_drop, List.getElem?_eq_getElem h, List.getD_eq_getElem?_getD, List.getElem?_eq_getElem h]
      rfl
    rw [e, lotOr_snoc]
    have : ((rows.drop first).take at_).length = at_ := by rw [List.length_take, List.length_drop]; omega
    rw [this]
  · have hb : part.testBit at_ = false := by
      cases q : part.testBit at_ with
      | false => rfl
      | true => exact absurd (hin q) h
    rw [hb, if_neg (by simp), Nat.or_zero, List.take_of_length_le (by rw [List.length_drop]; omega), List.take_of_length_le (by rw [List.length_drop]; omega)]
/-! rows through rows, rows joined -/
def thru (rows others : List Nat) : List Nat := rows.map (lotOr others)
def join2 (a b : List Nat) : List Nat := (a.zip b).map fun p => p.1 ||| p.2
def joined (rows : List Nat) (ls : List (List Nat)) : List Nat := ls.foldl join2 rows
theorem thru_len (r o : List Nat) : (thru r o).length = r.length := List.length_map ..
theorem join2_len {a b : List Nat} {n : Nat} (h1 : a.length = n) (h2 : b.length = n) : (join2 a b).length = n := by
  unfold join2
  rw [List.length_map, List.length_zip, h1, h2, Nat.min_self]
theorem joined_len {n : Nat} : ∀ {ls : List (List Nat)} {r : List Nat}, r.length = n → (∀ l ∈ ls, l.length = n) → (joined r ls).length = n
  | [], _, h, _ => h
  | l :: ls, r, h, hl => joined_len (ls := ls) (r := join2 r l) (join2_len h (hl l (List.mem_cons_self ..))) fun x hx => hl x (List.mem_cons_of_mem _ hx)
theorem thru_lt {r o : List Nat} {n : Nat} (h : ∀ x ∈ o, x < 2 ^ n) : ∀ x ∈ thru r o, x < 2 ^ n := fun x hx => by
  obtain ⟨y, _, rfl⟩ := List.mem_map.mp hx
  exact lotOr_lt h y
theorem join2_lt {a b : List Nat} {n : Nat} (h1 : ∀ x ∈ a, x < 2 ^ n) (h2 : ∀ x ∈ b, x < 2 ^ n) : ∀ x ∈ join2 a b, x < 2 ^ n := fun x hx => by
  obtain ⟨p, hp, rfl⟩ := List.mem_map.mp hx
  exact Nat.or_lt_two_pow (h1 _ (List.of_mem_zip hp).1) (h2 _ (List.of_mem_zip hp).2)
theorem joined_lt {n : Nat} : ∀ {ls : List (List Nat)} {r : List Nat}, (∀ x ∈ r, x < 2 ^ n) → (∀ l ∈ ls, ∀ x ∈ l, x < 2 ^ n) → ∀ x ∈ joined r ls, x < 2 ^ n
  | [], _, h, _ => h
  | l :: ls, r, h, hl => joined_lt (ls := ls) (r := join2 r l) (join2_lt h (hl l (List.mem_cons_self ..))) fun x hx => hl x (List.mem_cons_of_mem _ hx)
/-- one row holds the other -/
def Sub (a b : List Nat) : Prop := a.length = b.length ∧ ∀ (i x y : Nat), a[i]? = some x → b[i]? = some y → ∀ j, x.testBit j = true → y.testBit j = true
theorem Sub.refl (a : List Nat) : Sub a a := ⟨rfl, fun i x y h1 h2 j h => by rw [h1] at h2; cases h2; exact h⟩
theorem Sub.trans {a b c : List Nat} (h : Sub a b) (h2 : Sub b c) : Sub a c := ⟨h.1.trans h2.1, fun i x z e1 e3 j hj => by
  have hl := (List.getElem?_eq_some_iff.mp e1).1
  have hb : i < b.length := by have := h.1; omega
  have e2 : b[i]? = some b[i] := List.getElem?_eq_getElem hb
  exact h2.2 i _ z e2 e3 j (h.2 i x _ e1 e2 j hj)⟩
theorem sub_join2 {a b : List Nat} (h : a.length = b.length) : Sub a (join2 a b) := ⟨(join2_len rfl h.symm).symm, fun i x y e1 e2 j hj => by
  have hl := (List.getElem?_eq_some_iff.mp e1).1
  have e3 : b[i]? = some b[i] := List.getElem?_eq_getElem (by omega)
  unfold join2 at e2
  rw [List.getElem?_map, List.getElem?_zip_eq_some (z := (x, b[i])).mpr ⟨e1, e3⟩] at e2
  have e2 := Option.some.inj e2
  rw [← e2, Nat.testBit_or, hj, Bool.true_or]⟩
theorem sub_joined {n : Nat} : ∀ {ls : List (List Nat)} {r : List Nat}, r.length = n → (∀ l ∈ ls, l.length = n) → Sub r (joined r ls)
  | [], r, _, _ => Sub.refl r
  | l :: ls, r, h, hl => by
    have h2 := hl l (List.mem_cons_self ..)
    exact (sub_join2 (h.trans h2.symm)).trans (sub_joined (ls := ls) (r := join2 r l) (join2_len h h2) fun x hx => hl x (List.mem_cons_of_mem _ hx))
/-- each stand leads to itself -/
def Refl (f : List Nat) : Prop := ∀ (i x : Nat), f[i]? = some x → x.testBit i = true
theorem Refl.sub {a b : List Nat} (h : Refl a) (s : Sub a b) : Refl b := by
  intro i y e
  have hl := (List.getElem?_eq_some_iff.mp e).1
  have ha : i < a.length := by have := s.1; omega
  have e2 : a[i]? = some a[i] := List.getElem?_eq_getElem ha
  exact s.2 i _ y e2 e i (h i _ e2)
theorem sub_thru {a o : List Nat} (h : Refl o) (hn : ∀ x ∈ a, x < 2 ^ o.length) : Sub a (thru a o) := ⟨(thru_len a o).symm, fun i x y e1 e2 j hj => by
  unfold thru at e2
  rw [List.getElem?_map, e1] at e2
  have e2 := Option.some.inj e2
  subst e2
  have hl := bit_lt (hn x (List.mem_of_getElem? e1)) hj
  have e3 : o[j]? = some o[j] := List.getElem?_eq_getElem hl
  exact (lotOr_bit o x j).mpr ⟨j, o[j], e3, hj, h j _ e3⟩⟩
theorem le_of_bits {x y : Nat} (h : ∀ j, x.testBit j = true → y.testBit j = true) : x ≤ y := by
  have e : x ||| y = y := Nat.eq_of_testBit_eq fun j => by
    rw [Nat.testBit_or]
    cases q : x.testBit j with
    | false => rw [Bool.false_or]
    | true => rw [h j q, Bool.true_or]
  rw [← e]
  exact Nat.left_le_or
/-- how far rows are from full -/
def gap (n : Nat) (r : List Nat) : Nat := (r.map fun x => 2 ^ n - x).sum
theorem gap_le {n : Nat} : ∀ {a b : List Nat}, Sub a b → gap n b ≤ gap n a ∧ (a ≠ b → (∀ x ∈ b, x < 2 ^ n) → gap n b < gap n a)
  | [], [], _ => ⟨Nat.le_refl _, fun h => absurd rfl h⟩
  | [], _ :: _, h => absurd h.1 (by simp)
  | _ :: _, [], h => absurd h.1 (by simp)
  | x :: a, y :: b, h => by
    have hs : Sub a b := ⟨by simpa using h.1, fun i u v e1 e2 => h.2 (i + 1) u v (by simpa using e1) (by simpa using e2)⟩
    have hxy : x ≤ y := le_of_bits (h.2 0 x y rfl rfl)
    obtain ⟨i1, i2⟩ := gap_le (n := n) hs
    have e1 : gap n (x :: a) = (2 ^ n - x) + gap n a := by unfold gap; simp
    have e2 : gap n (y :: b) = (2 ^ n - y) + gap n b := by unfold gap; simp
    rw [e1, e2]
    refine ⟨by omega, fun hne hlt => ?_⟩
    have hy := hlt y (List.mem_cons_self ..)
    by_cases hq : x = y
    · have : a ≠ b := fun e => hne (by rw [hq, e])
      have := i2 this fun z hz => hlt z (List.mem_cons_of_mem _ hz)
      omega
    · omega
end AsLot

set_option maxHeartbeats 4000000
set_option autoImplicit false
/-! bits of numbers from 0 on, told as data. -/
namespace AsLot
open PySem PySem.Spec PyProof.Rows L2 AsSort AsKit
open Evl (Ex Ev EvT EvA)
theorem not_not (x : Int) : Builtin.bitNot (Builtin.bitNot x) = x := by unfold Builtin.bitNot; omega
theorem bor (a b : Nat) : Builtin.bitOr (a : Int) (b : Int) = ((a ||| b : Nat) : Int) := by
  unfold Builtin.bitOr Builtin.bitAnd
  have h1 : decide (0 ≤ Builtin.bitNot (a : Int)) = false := decide_eq_false (by unfold Builtin.bitNot; omega)
  have h2 : decide (0 ≤ Builtin.bitNot (b : Int)) = false := decide_eq_false (by unfold Builtin.bitNot; omega)
  rw [h1, h2]
  simp only [not_not, Int.toNat_natCast]
section
variable {K : PySem.W.Frag} {σ : L2.St} {H : Hp} {ta tb : TE}
theorem d_or_ {a b : Nat} (h : EvD K ta σ H (.int (a : Int))) (h2 : EvD K tb σ H (.int (b : Int))) : EvD K (tOp (rI0 fun i j => .int (Builtin.bitOr i j)) ta tb) σ H (.int ((a ||| b : Nat) : Int)) := d_eqTo (d_arI h h2) (congrArg PyData.int (bor a b))
theorem d_and_ {a b : Nat} (h : EvD K ta σ H (.int (a : Int))) (h2 : EvD K tb σ H (.int (b : Int))) : EvD K (tOp (rI0 fun i j => .int (Builtin.bitAnd i j)) ta tb) σ H (.int ((a &&& b : Nat) : Int)) := d_eqTo (d_arI h h2) (congrArg PyData.int (PySem.W.os_band a b))
theorem d_shr_ {a k : Nat} (h : EvD K ta σ H (.int (a : Int))) (h2 : EvD K tb σ H (.int (k : Int))) : EvD K (tOp (rI (fun _ j => 0 ≤ j) fun i j => .int (i / 2 ^ j.toNat)) ta tb) σ H (.int ((a / 2 ^ k : Nat) : Int)) := d_eqTo (d_opC (C := fun _ j => 0 ≤ j) (g := fun i j => i / 2 ^ j.toNat) h h2 (Int.natCast_nonneg k)) (congrArg PyData.int (by
  rw [Int.toNat_natCast]
  norm_cast))
end
end AsLot

set_option maxHeartbeats 4000000
set_option autoImplicit false
/-! the follower. -/
namespace K14
open PySem PySem.Spec PyProof.Rows L2 AsSort AsKit AsToo AsObj AsLot
open Evl (Ex Ev EvT EvA)
abbrev sFollower : Stmt := top 39
def fm (i : Nat) : Stmt := (clsB sFollower).getD i (.Pass ⟨0, 0, 0, 0⟩)
abbrev nI (n : Nat) : PyData := .int (n : Int)
abbrev rowI (r : List Nat) : List PyData := r.map nI
structure FwC (K : PySem.W.Frag) (C : Addr) : Prop where
  cl : Cls K C
  nr : NoAttr K C "rows"
  nk : NoAttr K C "kept"
def RowAt (K : PySem.W.Frag) (H : Hp) (v : V) (rows : List Nat) : Prop := Dp K H v (.list (rowI rows)) ∨ Dp K H v (.tuple (rowI rows))
theorem RowAt.ex {K : PySem.W.Frag} {H H' : Hp} {v : V} {rows : List Nat} (h : RowAt K H v rows) (e : Ex H H') : RowAt K H' v rows := h.imp (dp_ex e) (dp_ex e)
theorem ints_of {K : PySem.W.Frag} {H : Hp} : ∀ {xs : List V} {rows : List Nat}, DpAll K H xs (rowI rows) → ∀ G, DpAll K G xs (rowI rows)
  | _, [], .nil, _ => .nil
  | _, _ :: _, .cons h t, G => .cons (dp_sc (fun _ z => by simp [nI] at z) (fun _ z => by simp [nI] at z) h G) (ints_of t G)
/-- .. behind a change of an object -/
theorem RowAt.keep {K : PySem.W.Frag} {H H' : Hp} {v : V} {rows : List Nat} {a C dx : Addr} {fs : List (Str × V)} (h : RowAt K H v rows) (ha : H a = some (.ins C dx fs)) (k : ∀ x o, x ≠ a → H x = some o → H' x = some o) : RowAt K H' v rows := by
  have go : ∀ x o, (∀ C dx fs, o ≠ .ins C dx fs) → H x = some o → H' x = some o := fun x o n hx => k x o (fun e => by rw [e, ha] at hx; exact n _ _ _ (Option.some.inj hx).symm) hx
  rcases h with h | h
  · cases h with
    | lst hq hx =>
      refine .inl (.lst ?_ (ints_of hx H'))
      rcases hq with (z | ⟨o, z⟩) | z
      · exact .inl (.inl (go _ _ (fun _ _ _ z => nomatch z) z))
      · exact .inl (.inr ⟨o, go _ _ (fun _ _ _ z => nomatch z) z⟩)
      · exact .inr z
  · cases h with
    | tup hq hx =>
      refine .inr (.tup ?_ (ints_of hx H'))
      rcases hq with (z | ⟨o, z⟩) | z
      · exact .inl (.inl (go _ _ (fun _ _ _ z => nomatch z) z))
      · exact .inl (.inr ⟨o, go _ _ (fun _ _ _ z => nomatch z) z⟩)
      · exact .inr z
/-- .. behind a change of a dict -/
theorem RowAt.stay {K : PySem.W.Frag} {H H' : Hp} {v : V} {rows : List Nat} (h : RowAt K H v rows) (go : ∀ x o, (∀ kvs, o ≠ .dT kvs) → H x = some o → H' x = some o) : RowAt K H' v rows := by
  rcases h with h | h
  · cases h with
    | lst hq hx =>
      refine .inl (.lst ?_ (ints_of hx H'))
      rcases hq with (z | ⟨o, z⟩) | z
      · exact .inl (.inl (go _ _ (fun _ z => nomatch z) z))
      · exact .inl (.inr ⟨o, go _ _ (fun _ z => nomatch z) z⟩)
      · exact .inr z
  · cases h with
    | tup hq hx =>
      refine .inr (.tup ?_ (ints_of hx H'))
      rcases hq with (z | ⟨o, z⟩) | z
      · exact .inl (.inl (go _ _ (fun _ z => nomatch z) z))
      · exact .inl (.inr ⟨o, go _ _ (fun _ z => nomatch z) z⟩)
      · exact .inr z
/-- what is kept -/
def KeptOk (rows : List Nat) (kvs : List (List Key × V)) : Prop := ∀ k v, valV kvs k = some v → ∃ f p : Nat, k = [.inl (f : Int), .inl (p : Int)] ∧ v = .int (partOr rows f p : Nat)
def fwF (v : V) (kd : Addr) : List (Str × V) := [("rows", v), ("kept", .ref kd)]
def FwAt (K : PySem.W.Frag) (C : Addr) (H : Hp) (a kd : Addr) (rows : List Nat) (n : Nat) : Prop := ∃ dx v kvs, H a = some (.ins C dx (fwF v kd)) ∧ RowAt K H v rows ∧ H kd = some (.dT kvs) ∧ KeptOk rows kvs ∧ kvs.length ≤ n
section
variable {P : Program} {w : World} {K : PySem.W.Frag} {mg : Str → Option Value} {base : Heap} {C : Addr}
abbrev nFInit : List Str := ["self", "rows"]
theorem sc_finit : FnScope nFInit nFInit (defScope (fm 0)) := ⟨rfl, rfl, rfl, by decide +kernel, rfl, by decide +kernel, by decide +kernel⟩
def spFInit (K : PySem.W.Frag) (C : Addr) : Sp := fun vs H Q _ => ∃ (a : Addr) (v : V) (rows : List Nat) (dx : Addr), vs = [.ref a, v] ∧ RowAt K H v rows ∧ H a = some (.ins C dx []) ∧
  ∀ H' kd, (∀ x o, x ≠ a → H x = some o → H' x = some o) → H kd = none → FwAt K C H' a kd rows 0 → Q .non H'
theorem x_finit (c : FwC K C) (D : DfI K C "Follower.__init__" (fm 0)) (hm : mg "Follower" = some (.ref C)) : Mkp P w K mg base 1 "Follower" C nFInit (spFInit K C) := by
  refine mkp_of D hm sc_finit (fun vs H Q E ⟨a, v, rows, dx, h, _⟩ => by rw [h]; rfl) (fun _ _ _ _ _ _ us hl => match us, hl with | [_, _], _ => rfl) fun f cdv A outer s H vs Q E hr h => ?_
  obtain ⟨a, v, rows, dx, rfl, h1, ha, q⟩ := h
  refine ⟨_, pss_cons (ps_fld (pv 0) (pv 1) rfl) (pss_one (ps_fld (pv 0) pe_dnewT rfl)), ?_⟩
  refine ⟨v, rfl, .ref a, rfl, a, C, dx, _, rfl, ha, c.cl, c.nr, by decide, ?_⟩
  intro kd nkd
  have nka : kd ≠ a := fun e => by rw [e, upd_same] at nkd; cases nkd
  refine ⟨.ref a, rfl, a, C, dx, _, rfl, (upd_ne nka.symm).trans upd_same, c.cl, c.nk, by have := putF_len (f := "rows") (v := v) (Nat.le_refl (List.length ([] : List (Str × V)))); simp only [List.length_nil] at this; omega, ?_⟩
  have hk0 : H kd = none := (upd_ne nka).symm.trans nkd
  have hkeep : ∀ x o, x ≠ a → H x = some o → upd (upd (upd H a (.ins C dx [("rows", v)])) kd (.dT [])) a (.ins C dx (fwF v kd)) x = some o := fun x o n hx => by
    have nx : x ≠ kd := fun e => by rw [e, hk0] at hx; cases hx
    rw [upd_ne n, upd_ne nx, upd_ne n]
    exact hx
  exact q _ kd hkeep hk0 ⟨dx, v, [], upd_same, h1.keep ha hkeep, by rw [upd_ne nka, upd_same], (fun k v h => nomatch h), Nat.le_refl _⟩
theorem FwAt.ex {H H' : Hp} {a kd : Addr} {rows : List Nat} {n : Nat} (h : FwAt K C H a kd rows n) (e : Ex H H') : FwAt K C H' a kd rows n := let ⟨dx, v, kvs, h1, h2, h3, h4, h5⟩ := h; ⟨dx, v, kvs, e _ _ h1, h2.ex e, e _ _ h3, h4, h5⟩
abbrev nFPart : List Str := ["self", "first", "part", "found", "at"]
theorem sc_fpart : FnScope nFPart ["self", "first", "part"] (defScope (fm 1)) := ⟨rfl, rfl, rfl, by decide +kernel, rfl, by decide +kernel, by decide +kernel⟩
def spFPart (K : PySem.W.Frag) (C : Addr) : Sp := fun vs H Q _ => ∃ (a kd : Addr) (rows : List Nat) (n first part : Nat), vs = [.ref a, .int (first : Int), .int (part : Int)] ∧ FwAt K C H a kd rows n ∧ (∀ i, i < 8 → part.testBit i = true → first + i < rows.length) ∧ rows.length ≤ 50000 ∧
  ∀ H', Ex H H' → Q (.int (partOr rows first part : Nat)) H'
theorem row_ix {H : Hp} {v : V} {rows : List Nat} {i : Nat} (h : RowAt K H v rows) (hi : i < rows.length) {Q : VK} (q : Q (.int (rows.getD i 0 : Nat)) H) : rIx K v (.int (i : Int)) H Q := by
  have get : ∀ {xs : List V}, DpAll K H xs (rowI rows) → xs.length = rows.length ∧ xs[i]? = some (.int (rows.getD i 0 : Nat)) := fun {xs} hx => by
    have hl : xs.length = rows.length := by rw [dpAll_len hx]; exact List.length_map ..
    have hx1 : xs[i]? = some xs[i] := List.getElem?_eq_getElem (by omega)
    have hd : (rowI rows)[i]? = some (nI (rows.getD i 0)) := by
      show (rows.map nI)[i]? = _
      rw [List.getElem?_map, List.getElem?_eq_getElem hi, List.getD_eq_getElem?_getD, List.getElem?_eq_getElem hi]
      rfl
    have := dpAll_get hx hx1 hd
    refine ⟨hl, ?_⟩
    rw [hx1]
    generalize xs[i] = y at this
    cases this
    rfl
  have at_ : ∀ {xs : List V}, DpAll K H xs (rowI rows) → atI xs (i : Int) = some (.int (rows.getD i 0 : Nat)) := fun {xs} hx => atI_nat (get hx).2
  rcases h with h | h
  · cases h with
    | lst hq hx => exact .inl ⟨_, _, _, _, rfl, rfl, hq, at_ hx, q⟩
  · cases h with
    | tup hq hx => exact .inr (.inl ⟨_, _, _, _, rfl, rfl, hq, at_ hx, q⟩)
theorem m_fpart (c : FwC K C) (D : DfM K C "behind_part" "Follower.behind_part" (fm 1)) (hb : Bl mg) (g8 : Gn mg "PART" 8) : Ml P w K mg base 1 C "behind_part" ["self", "first", "part"] (spFPart K C) := by
  refine ml_of c.cl D sc_fpart (fun vs H Q E ⟨a, kd, rows, n, f, p, h, _⟩ => by rw [h]; rfl) (fun _ _ _ _ _ _ us hl => match us, hl with | [_, _, _], _ => rfl) fun f cdv A outer s H vs Q E hr h => ?_
  obtain ⟨a, kd, rows, n, first, part, rfl, hF, hin, hrl, q⟩ := h
  refine ⟨_, pss_cons (ps_set (i := 3) sc_fpart.nd rfl (.inl rfl) pe_int)
    (pss_cons (ps_for PassesOwn.never rfl (pi_range1 (by rfl) (hb _ (by decide +kernel)) (pa_cons (pe_gn g8) pa_nil)) (pg_name (i := 4) sc_fpart.nd rfl (.inl rfl)) (pss_one (ps_if (pt_cmpR op_eq (pe_op op_and (pe_op op_shr (pv 2) (pv 4)) pe_int) pe_int (nomark _)) (pss_one (ps_aug (i := 3) sc_fpart.nd rfl (.inl rfl) (pe_ix ix_seq (pe_fld (pv 0) rfl) (pe_op op_add (pv 1) (pv 4)) (fun _ _ => rfl)) iop_or)) pss_nil)))
    (pss_one (ps_ret (pv 3)))), ?_⟩
  refine ⟨8, rfl, by decide, by decide, ?_⟩
  refine for_range (lo := 0) (n := ((8 : Int)).toNat) (fun i σ' H' => ∃ x4, σ' = [some (.ref a), some (.int (first : Int)), some (.int (part : Int)), some (.int (lotOr (((rows.drop first).take 8).take i) part : Nat)), x4] ∧ Ex H H') ⟨none, rfl, Ex.refl H⟩ (fun i σ' H' hi g => ?_) fun σ' H' g => ?_
  · obtain ⟨x4, rfl, e⟩ := g
    have hi8 : i < 8 := hi
    obtain ⟨fo, efo⟩ : ∃ fo, fo = lotOr (((rows.drop first).take 8).take i) part := ⟨_, rfl⟩
    rw [← efo]
    obtain ⟨σ, eσ⟩ : ∃ σ : L2.St, σ = [some (.ref a), some (.int (first : Int)), some (.int (part : Int)), some (.int (fo : Nat)), some (.int (0 + (i : Int)))] := ⟨_, rfl⟩
    dsimp only [gName]
    show tIfS _ _ _ _ [some (.ref a), some (.int (first : Int)), some (.int (part : Int)), some (.int (fo : Nat)), some (.int (0 + (i : Int)))] H'
    rw [← eσ]
    have e0 : (0 + (i : Int)) = (i : Int) := Int.zero_add _
    have a1 : At K σ H' 1 (.int (first : Int)) := ⟨_, by rw [eσ]; rfl, .int _⟩
    have a2 : At K σ H' 2 (.int (part : Int)) := ⟨_, by rw [eσ]; rfl, .int _⟩
    have a4 : At K σ H' 4 (.int (i : Int)) := ⟨.int (i : Int), by rw [eσ, e0]; rfl, .int _⟩
    have step := part_step rows first part i hi8 (hin i hi8)
    rw [← efo] at step
    have eb : decide (((part / 2 ^ i &&& 1 : Nat) : Int) = 1) = part.testBit i := by
      have h1 : part / 2 ^ i &&& 1 = part / 2 ^ i % 2 := Nat.and_one_is_mod _
      have h2 := Nat.testBit_eq_decide_div_mod_eq (x := part) (i := i)
      rw [h1, h2]
      exact decide_eq_decide.mpr (by omega)
    refine Evl.s_when (b := part.testBit i) (Evl.et_is (t_ofD (K := K) (d_eqI (d_and_ (b := 1) (d_shr_ (d_var a2) (d_var a4)) (d_int (i := 1))) (d_int (i := 1)))) eb) (fun hb1 H2 e2 => ?_) fun hb1 H2 e2 => ?_
    · have hlt := hin i hi8 hb1
      obtain ⟨dx, v, kvs, h1, h2, h3, h4, h5⟩ := (hF.ex e).ex e2
      refine ⟨.int (fo : Nat), by rw [eσ]; rfl, .ref a, by rw [eσ]; rfl, a, C, dx, _, v, rfl, h1, c.cl, c.nr, rfl, .int (first : Int), by rw [eσ]; rfl, .int (i : Int), by rw [eσ, e0]; rfl, _, _, rfl, rfl, ?_⟩
      have ei : (first : Int) + (i : Int) = ((first + i : Nat) : Int) := by omega
      show rIx K v (.int ((first : Int) + (i : Int))) H2 _
      rw [ei]
      refine row_ix h2 hlt ?_
      refine ⟨_, _, rfl, rfl, ?_⟩
      dsimp only
      rw [bor, eσ]
      rw [hb1, if_pos rfl] at step
      rw [step]
      exact ⟨_, rfl, e.trans e2⟩
    · rw [hb1, if_neg (by simp), Nat.or_zero] at step
      rw [step, eσ]
      exact ⟨_, rfl, e.trans e2⟩
  · obtain ⟨x4, rfl, e⟩ := g
    have : ((rows.drop first).take 8).take ((8 : Int)).toNat = (rows.drop first).take 8 := by
      show List.take 8 _ = _
      rw [List.take_take]
      rfl
    rw [this]
    exact ⟨_, rfl, q H' e⟩
abbrev nFBeh : List Str := ["self", "lot", "found", "first", "rest", "part"]
theorem sc_fbeh : FnScope nFBeh ["self", "lot"] (defScope (fm 2)) := ⟨rfl, rfl, rfl, by decide +kernel, rfl, by decide +kernel, by decide +kernel⟩
def spFBeh (K : PySem.W.Frag) (C : Addr) : Sp := fun vs H Q _ => ∃ (a kd : Addr) (rows : List Nat) (n lot : Nat), vs = [.ref a, .int (lot : Int)] ∧ FwAt K C H a kd rows n ∧ lot < 2 ^ rows.length ∧ rows.length ≤ 50000 ∧ n + rows.length + 8 ≤ 16000000 ∧
  ∀ H', Bt kd H H' → FwAt K C H' a kd rows (n + rows.length + 8) → Q (.int (lotOr rows lot : Nat)) H'
/-- on the way of a lot -/
def FbI (K : PySem.W.Frag) (C : Addr) (H : Hp) (a kd : Addr) (rows : List Nat) (n lot : Nat) (m : Nat) (σ' : L2.St) (H' : Hp) : Prop := ∃ (k : Nat) (x5 : Option V), σ' = [some (.ref a), some (.int (lot : Int)), some (.int (lotOr (rows.take k) lot : Nat)), some (.int (k : Int)), some (.int ((lot / 2 ^ k : Nat) : Int)), x5] ∧ m = lot / 2 ^ k ∧ k ≤ rows.length + 7 ∧ Bt kd H H' ∧ FwAt K C H' a kd rows (n + k)
theorem m_fbeh (c : FwC K C) (D : DfM K C "behind" "Follower.behind" (fm 2)) (hb : Bl mg) (g8 : Gn mg "PART" 8) (g255 : Gn mg "FULL_PART" 255) (M1 : Ml P w K mg base 1 C "behind_part" ["self", "first", "part"] (spFPart K C)) : Ml P w K mg base 2 C "behind" ["self", "lot"] (spFBeh K C) := by
  refine ml_of c.cl D sc_fbeh (fun vs H Q E ⟨a, kd, rows, n, l, h, _⟩ => by rw [h]; rfl) (fun _ _ _ _ _ _ us hl => match us, hl with | [_, _], _ => rfl) fun f cdv A outer s H vs Q E hr h => ?_
  obtain ⟨a, kd, rows, n, lot, rfl, hF, hlt, hrl, hn, q⟩ := h
  have hu : (A.deeper (envOfC "Follower.behind" (defScope (fm 2)) s.heap.objs.size f cdv)).units + 1 < cLine := by have := hr.un; omega
  refine ⟨_, pss_cons (ps_set (i := 2) sc_fbeh.nd rfl (.inl rfl) pe_int) (pss_cons (ps_set (i := 3) sc_fbeh.nd rfl (.inl rfl) pe_int) (pss_cons (ps_set (i := 4) sc_fbeh.nd rfl (.inl rfl) (pv 1))
    (pss_cons (ps_while PassesOwn.never (pt_cmpR op_gt (pv 4) pe_int (nomark _))
      (pss_cons (ps_set (i := 5) sc_fbeh.nd rfl (.inl rfl) (pe_op op_and (pv 4) (pe_gn g255)))
      (pss_cons (ps_if (pt_cmp (pc_dnotin hu (pe_tup (pa_cons (pv 3) (pa_cons (pv 5) pa_nil))) (pe_fld (pv 0) rfl))) (pss_one (ps_dput hu (pe_fld (pv 0) rfl) (pe_tup (pa_cons (pv 3) (pa_cons (pv 5) pa_nil))) (pe_ml M1 hr (by decide) (pv 0) (pa_cons (pv 3) (pa_cons (pv 5) pa_nil))) rfl)) pss_nil)
      (pss_cons (ps_aug (i := 2) sc_fbeh.nd rfl (.inl rfl) (pe_dget hu (pe_fld (pv 0) rfl) (pe_tup (pa_cons (pv 3) (pa_cons (pv 5) pa_nil))) (fun _ _ => rfl)) iop_or)
      (pss_cons (ps_aug (i := 3) sc_fbeh.nd rfl (.inl rfl) (pe_gn g8) ip_add)
      (pss_one (ps_aug (i := 4) sc_fbeh.nd rfl (.inl rfl) (pe_gn g8) iop_shr)))))))
    (pss_one (ps_ret (pv 2)))))), ?_⟩
  refine ⟨.int (lot : Int), rfl, ?_⟩
  refine Evl.q_while (FbI K C H a kd rows n lot) lot ⟨0, none, by rw [List.take_zero, Nat.pow_zero, Nat.div_one]; rfl, by rw [Nat.pow_zero, Nat.div_one], by omega, Bt.refl kd H, hF⟩ fun m σ' H' hw => ?_
  obtain ⟨k, x5, rfl, rfl, hk, hB, hF'⟩ := hw
  obtain ⟨fo, efo⟩ : ∃ fo, fo = lotOr (rows.take k) lot := ⟨_, rfl⟩
  obtain ⟨re, ere⟩ : ∃ re, re = lot / 2 ^ k := ⟨_, rfl⟩
  rw [← efo, ← ere]
  refine ⟨decide ((0 : Int) < (re : Int)), t_ofD (K := K) (d_cmpI (g := fun i j => decide (j < i)) (d_var (i := 4) ⟨_, rfl, .int _⟩) d_int), fun hb1 H1 e1 => ?_, fun hb1 H1 e1 => ?_⟩
  · have hpos : 0 < re := by have := of_decide_eq_true hb1; omega
    have hkl : k < rows.length := by
      have h1 : 2 ^ k ≤ lot := by
        rw [ere] at hpos
        exact (Nat.div_pos_iff.mp hpos).2
      exact (Nat.pow_lt_pow_iff_right (by decide : 1 < 2)).mp (Nat.lt_of_le_of_lt h1 hlt)
    have hless : lot / 2 ^ (k + 8) < re := by
      rw [Nat.pow_add, ← Nat.div_div_eq_div_mul, ← ere]
      exact Nat.div_lt_self hpos (by decide)
    refine ⟨fun σ2 H2 => FbI K C H a kd rows n lot (lot / 2 ^ (k + 8)) σ2 H2, fun σ2 H2 h => ⟨_, hless, h⟩, ?_⟩
    -- part
    obtain ⟨pt, ept⟩ : ∃ pt, pt = re &&& 255 := ⟨_, rfl⟩
    have ep2 : pt = re % 256 := by rw [ept]; exact Nat.and_two_pow_sub_one_eq_mod re 8
    have hin : ∀ i, i < 8 → pt.testBit i = true → k + i < rows.length := fun i hi ht => by
      rw [ep2, show (256 : Nat) = 2 ^ 8 by decide, Nat.testBit_mod_two_pow, Bool.and_eq_true, ere, Nat.testBit_div_two_pow] at ht
      have := bit_lt hlt ht.2
      omega
    refine AsKit.q_asg (K := K) (d := .int (pt : Int)) (d_eqTo (d_and_ (b := 255) (d_var (i := 4) ⟨.int (re : Int), rfl, .int _⟩) (d_int (i := 255))) (by rw [ept])) fun v5 H2 e2 hv5 => ?_
    cases hv5
    have hB2 : Bt kd H H2 := hB.trans (bt_ex (e1.trans e2))
    have hF2 := (hF'.ex e1).ex e2
    obtain ⟨σ, eσ⟩ : ∃ σ : L2.St, σ = [some (.ref a), some (.int (lot : Int)), some (.int (fo : Nat)), some (.int (k : Int)), some (.int (re : Nat)), some (.int (pt : Int))] := ⟨_, rfl⟩
    show tSeq _ _ _ [some (.ref a), some (.int (lot : Int)), some (.int (fo : Nat)), some (.int (k : Int)), some (.int (re : Nat)), some (.int (pt : Int))] H2
    rw [← eσ]
    have s0 : σ[0]? = some (some (.ref a)) := by rw [eσ]; rfl
    have s3 : σ[3]? = some (some (.int (k : Int))) := by rw [eσ]; rfl
    have s5 : σ[5]? = some (some (.int (pt : Int))) := by rw [eσ]; rfl
    obtain ⟨dx, v, kvs, h1, h2, h3, h4, h5⟩ := id hF2
    have nak : a ≠ kd := fun e => by rw [e, h3] at h1; cases h1
    -- what follows, once the part is kept
    have rest : ∀ (H3 : Hp) (kvs3 : List (List Key × V)) (v3 : V), Bt kd H H3 → H3 a = some (.ins C dx (fwF v kd)) → RowAt K H3 v rows → H3 kd = some (.dT kvs3) → KeptOk rows kvs3 → kvs3.length ≤ n + k + 1 → valV kvs3 [.inl (k : Int), .inl (pt : Int)] = some v3 →
        ∀ (D : Ends) (tz : TS), (∀ σ' H', FbI K C H a kd rows n lot (lot / 2 ^ (k + 8)) σ' H' → D.nx σ' H') →
        tSeq (tAug 2 (tDGet (tFld K (tVar 0) "kept") (tTup (tCons (tVar 3) (tCons (tVar 5) tNil)))) (rI0 fun i j => .int (Builtin.bitOr i j))) (tSeq (tAug 3 (tC (.int 8)) (ipI fun i j => i + j)) (tAug 4 (tC (.int 8)) (rI (fun _ j => 0 ≤ j) fun i j => .int (i / 2 ^ j.toNat)))) D σ H3 := by
      intro H3 kvs3 v3 b3 g1 g2 g3 g4 g5 g6 D tz kk
      obtain ⟨f', p', ek, ev⟩ := g4 _ _ g6
      simp only [List.cons.injEq, Sum.inl.injEq, and_true] at ek
      obtain ⟨e1, e2⟩ := ek
      have e1 : k = f' := by omega
      have e2 : pt = p' := by omega
      subst e1 e2 ev
      refine ⟨.int (fo : Nat), by rw [eσ]; rfl, .ref a, s0, a, C, dx, _, .ref kd, rfl, g1, c.cl, c.nk, rfl, .int (k : Int), s3, .int (pt : Int), s5, Evl.sz_of (by show 2 ≤ 100000; decide), fun t nt => ?_⟩
      have xt : Ex H3 (upd H3 t (.tup [.int (k : Int), .int (pt : Int)])) := Ex.new nt
      refine ⟨kd, _, rfl, by rw [← g6]; exact DGet.t (k := [.inl (k : Int), .inl (pt : Int)]) (xt _ _ g3) upd_same, _, _, rfl, rfl, ?_⟩
      dsimp only
      rw [bor]
      refine ⟨.int (k : Int), by rw [eσ]; rfl, _, _, rfl, rfl, ?_⟩
      refine ⟨.int (re : Nat), by rw [eσ]; rfl, (re : Int), 8, rfl, rfl, by show (0 : Int) ≤ 8; decide, ?_⟩
      have x5' : some (V.int (pt : Int)) = some (V.int (pt : Int)) := rfl
      refine kk _ _ ⟨k + 8, some (.int (pt : Int)), ?_, rfl, by omega, b3.trans (bt_ex xt), ⟨dx, v, kvs3, xt _ _ g1, g2.ex xt, xt _ _ g3, g4, by omega⟩⟩
      have q1 : lotOr (rows.take (k + 8)) lot = fo ||| partOr rows k pt := by rw [lotOr_part, ep2, efo, ere]
      have q2 : ((k + 8 : Nat) : Int) = (k : Int) + 8 := by omega
      have q3 : ((lot / 2 ^ (k + 8) : Nat) : Int) = (re : Int) / 2 ^ (8 : Int).toNat := by
        rw [Nat.pow_add, ← Nat.div_div_eq_div_mul, ← ere]
        norm_cast
      rw [q1, q2, q3, eσ]
      rfl
    have key : ∀ H3 t, Ex H2 H3 → H3 t = none → DGet (upd H3 t (.tup [.int (k : Int), .int (pt : Int)])) kd (.ref t) (valV kvs [.inl (k : Int), .inl (pt : Int)]) := fun H3 t e nt => DGet.t (k := [.inl (k : Int), .inl (pt : Int)]) ((e.trans (Ex.new nt)) _ _ h3) upd_same
    cases hval : valV kvs [.inl (k : Int), .inl (pt : Int)] with
    | some v3 =>
      refine Evl.q_when (b := false) (fun H3 e3 Q q => ⟨.int (k : Int), s3, .int (pt : Int), s5, Evl.sz_of (by show 2 ≤ 100000; decide), fun t nt => ⟨.ref a, s0, a, C, dx, _, .ref kd, rfl, (e3.trans (Ex.new nt)) _ _ h1, c.cl, c.nk, rfl, kd, _, rfl, key H3 t e3 nt, _, rfl, by rw [hval]; exact q _ (Ex.new nt)⟩⟩) (fun z => nomatch z) fun _ H3 e3 => ?_
      exact rest H3 kvs v3 (hB2.trans (bt_ex e3)) (e3 _ _ h1) (h2.ex e3) (e3 _ _ h3) h4 (by omega) hval _ (fun D => D.nx) fun σ' H' h => h
    | none =>
      refine Evl.q_when (b := true) (fun H3 e3 Q q => ⟨.int (k : Int), s3, .int (pt : Int), s5, Evl.sz_of (by show 2 ≤ 100000; decide), fun t nt => ⟨.ref a, s0, a, C, dx, _, .ref kd, rfl, (e3.trans (Ex.new nt)) _ _ h1, c.cl, c.nk, rfl, kd, _, rfl, key H3 t e3 nt, _, rfl, by rw [hval]; exact q _ (Ex.new nt)⟩⟩) (fun _ H3 e3 => ?_) fun z => nomatch z
      refine ⟨.ref a, s0, a, dx, _, rfl, e3 _ _ h1, rfl, .int (k : Int), s3, .int (pt : Int), s5, a, kd, rows, n + k, k, pt, rfl, hF2.ex e3, hin, hrl, fun H4 e4 => ?_⟩
      have e34 := e3.trans e4
      refine ⟨.ref a, s0, a, C, dx, _, .ref kd, rfl, e34 _ _ h1, c.cl, c.nk, rfl, .int (k : Int), s3, .int (pt : Int), s5, Evl.sz_of (by show 2 ≤ 100000; decide), fun t nt => ?_⟩
      have e5 := e34.trans (Ex.new (o := .tup [.int (k : Int), .int (pt : Int)]) nt)
      refine ⟨kd, _, rfl, DPut.t (k := [.inl (k : Int), .inl (pt : Int)]) (e5 _ _ h3) upd_same (by have := sizeLine_eq; omega), ?_⟩
      have hne : ∀ {b : Addr} {o : HO}, b ≠ kd → H2 b = some o → upd (upd H4 t (.tup [.int (k : Int), .int (pt : Int)])) kd (.dT (putK kvs [.inl (k : Int), .inl (pt : Int)] (.int (partOr rows k pt : Nat)))) b = some o := fun n hb => (upd_ne n).trans (e5 _ _ hb)
      have lput := length_putK kvs ([.inl (k : Int), .inl (pt : Int)] : List Key) (.int (partOr rows k pt : Nat))
      refine rest _ (putK kvs [.inl (k : Int), .inl (pt : Int)] (.int (partOr rows k pt : Nat))) (.int (partOr rows k pt : Nat)) (hB2.trans fun x o n hx => hne n hx) (hne nak h1) ?_ upd_same ?_ (by omega) ?_ _ (fun D => D.nx) fun σ' H' h => h
      · exact h2.stay fun x o n1 hx => hne (fun e => by rw [e, h3] at hx; exact n1 _ (Option.some.inj hx).symm) hx
      · intro k' v' hv'
        rw [valV_put] at hv'
        split at hv'
        · rename_i he
          cases hv'
          exact ⟨k, pt, he, rfl⟩
        · exact h4 k' v' hv'
      · rw [valV_put, if_pos rfl]
  · have hz : re = 0 := by have := of_decide_eq_false hb1; omega
    have hend := lotOr_end rows lot k (by rw [← ere]; exact hz)
    rw [← efo] at hend
    rw [hend]
    exact ⟨_, rfl, q H1 (hB.trans (bt_ex e1)) (by
      obtain ⟨dx, v, kvs, h1, h2, h3, h4, h5⟩ := hF'.ex e1
      exact ⟨dx, v, kvs, h1, h2, h3, h4, by omega⟩)⟩
end
end K14

set_option maxHeartbeats 4000000
set_option autoImplicit false
/-! sorted(e, key=len), also with reverse=True, over texts and lists. -/
namespace AsSort
open PySem PySem.Spec PyProof.Rows L2
open Evl (Ex)
/-- the length that len tells -/
def LenAt (K : PySem.W.Frag) (H : Hp) (x : V) (n : Nat) : Prop := (∃ z : Str, x = .str z ∧ z.length ≤ sizeLine ∧ n = z.length) ∨ ∃ p ys, x = .ref p ∧ (SqL K H p ys ∨ SqT K H p ys) ∧ n = ys.length
theorem LenAt.ex {K : PySem.W.Frag} {H H' : Hp} {x : V} {n : Nat} (h : LenAt K H x n) (e : Ex H H') : LenAt K H' x n := h.imp id fun ⟨p, ys, a, b, c⟩ => ⟨p, ys, a, b.imp (Evl.ex_l e) (Evl.ex_t e), c⟩
section
variable {X : Cx}
abbrev lenB : Value := .builtin "len"
theorem len_run {pins : List (Addr × Obj)} {σ : L2.St} {H : Hp} {s : Shared} {A : Around} {x : V} {u : Value} {n : Nat} {Q : VK} {E : Value → Shared → Prop} (I : Inv X pins σ H s) (r : RelV x u) (h : LenAt X.K H x n) (q : Q (.int n) H) :
    wpAny (model X.prog X.w) A (call lenB [u]) (EP X pins σ Q) E s := by
  have hn := line63
  rcases h with ⟨z, rfl, hz, rfl⟩ | ⟨p, ys, rfl, hs, rfl⟩
  · obtain ⟨t, rfl⟩ := r
    exact len_str (by omega) ⟨.int z.length, H, I.tok _, ⟨_, rfl⟩, q⟩
  · cases r
    rcases hs with hs | hs
    · obtain ⟨its, rv, pl, hz⟩ := I.list hs
      have el := rv.length
      exact Calls.call_len_list pl.isList (by simp only [List.size_toArray] <;> omega) ⟨.int ys.length, H, I.tok _, ⟨s.toks + 1, by rw [List.size_toArray, el]⟩, q⟩
    · obtain ⟨its, rv, pl, hz⟩ := I.tuple hs
      have el := rv.length
      exact len_tuple pl (by simp only [List.size_toArray] <;> omega) ⟨.int ys.length, H, I.tok _, ⟨s.toks + 1, by rw [List.size_toArray, el]⟩, q⟩
abbrev natD (n : Nat) : PyData := .int (n : Int)
theorem keys_len {H : Hp} {xs : List V} {ns : List Nat} (h : ∀ (i : Nat) x n, xs[i]? = some x → ns[i]? = some n → LenAt X.K H x n) : Keys X lenB H xs (ns.map natD) := by
  intro pins σ G z i v u d I e hx hk ru
  rw [List.getElem?_map] at hk
  cases hi : ns[i]? with
  | none => rw [hi] at hk; cases hk
  | some n =>
    rw [hi] at hk
    obtain rfl := Option.some.inj hk
    exact len_run I ru ((h i v n hx hi).ex e) ⟨Ex.refl G, .int _⟩
theorem natD_imm : ∀ ns : List Nat, immAll (ns.map natD) = true
  | [] => rfl
  | _ :: ns => natD_imm ns
theorem natD_alike (ns : List Nat) : PySem.W.AllAlike (ns.map natD) := fun d hd d' hd' => by
  obtain ⟨n, _, rfl⟩ := List.mem_map.mp hd
  obtain ⟨m, _, rfl⟩ := List.mem_map.mp hd'
  rfl
theorem natD_sortable (ns : List Nat) : PySem.W.Sortable (ns.map natD) := .inr fun d hd => by
  obtain ⟨n, _, rfl⟩ := List.mem_map.mp hd
  exact ⟨(fun e => nomatch e), (fun xs e => nomatch e)⟩
def tSortLen (K : PySem.W.Frag) (rev : Bool) (ta : TA) : TE := fun σ H Q => ta σ H fun vs H1 => ∃ (l : Addr) (xs : List V) (ns : List Nat), vs = [.ref l] ∧ (SqL K H1 l xs ∨ SqT K H1 l xs) ∧ ns.length = xs.length ∧ (∀ (i : Nat) x n, xs[i]? = some x → ns[i]? = some n → LenAt K H1 x n) ∧
  ∀ p G, H1 p = none → Ex (upd H1 p (.lst (byKey rev xs (ns.map natD)))) G → Q (.ref p) G
theorem run_sortLen {pins : List (Addr × Obj)} {σ : L2.St} {H : Hp} {s : Shared} {l : Addr} {xs : List V} {ns : List Nat} {rev : Bool} {kw : List (Str × Value)} {Q : VK} (I : Inv X pins σ H s) (hu : X.A.units + 10 < cLine) (hs : SqL X.K H l xs ∨ SqT X.K H l xs) (hl : ns.length = xs.length)
    (h : ∀ (i : Nat) x n, xs[i]? = some x → ns[i]? = some n → LenAt X.K H x n) (ha1 : argsOk "sorted" ⟨[.ref l], kw⟩) (ha2 : ∀ x, argsOk "list.sort" ⟨[.ref x], kw⟩) (ht : ∀ x, Builtin.«list.sort» ⟨[.ref x], kw⟩ = ksk_tree x lenB rev)
    (q : ∀ p G, H p = none → Ex (upd H p (.lst (byKey rev xs (ns.map natD)))) G → Q (.ref p) G) : wpAny (model X.prog X.w) X.A (call (.builtin "sorted") [.ref l] kw) (EP X pins σ Q) X.xe s :=
  sorted_run I hs (keys_len h) (by rw [List.length_map, hl]) (natD_imm ns) (natD_alike ns) (natD_sortable ns) (fun d hd => by
    obtain ⟨n, _, rfl⟩ := List.mem_map.mp hd
    show X.A.units + 1 + 1 + (natD n).depth < cLine
    show X.A.units + 1 + 1 + 0 < cLine
    omega) ha1 ha2 ht q
theorem bootSorted : bootBuiltins ("sorted" : Str) = some (.builtin "sorted") := by decide +kernel
theorem bootLen : bootBuiltins ("len" : Str) = some lenB := by decide +kernel
theorem pe_sortLen {e : Expr} {ta : TA} {p1 p2 pos kpos : Pos} (hg : Gl X "sorted") (hm : X.mg "sorted" = none) (hg2 : Gl X "len") (hm2 : X.mg "len" = none) (hu : X.A.units + 10 < cLine) (ha : PA X [e] ta)
    (he : backTo pos (starEach [e] X.env) = (false, eval e X.env) :: backTo pos (starEach [] X.env) := by rfl) (hpl : (backTo pos (starEach [e] X.env)).any (·.1) = false := by rfl) :
    PE X (.Call (.Name "sorted" p1) [e] [⟨some "key", .Name "len" p2, kpos⟩] pos) (tSortLen X.K false ta) := by
  refine ⟨fun pins s σ H Q I h => ?_⟩
  refine wpAny_Call_Name_kw (ld_blt I hg hm bootSorted ?_ (by decide) (by decide))
  refine PyProof.Rows.callWith_kw (thn (ha.run pos pins s σ H _ I h) fun us s1 ⟨vs, H1, I1, r1, l, xs, ns, ev, hs, hl, hn, q⟩ => ?_) he hpl (by rfl) (by rfl)
  subst ev
  obtain rfl := Vals.ref1 r1
  show wpAny _ _ (evalAll [do let v ← eval (.Name "len" p2) X.env; standAt pos; pure v]) _ _ s1
  refine wpAny_evalAll_cons (wpAny_bind ((pf_bltn hg2 hm2 bootLen).run pins s1 σ H1 _ I1 fun s2 I2 => wpAny_bind (wpAny_standAt (wpAny_pure (wpAny_evalAll_nil ?_)))))
  exact run_sortLen (rev := false) (kw := [(Str.ofString "key", lenB)]) I2 hu hs hl hn (PyProof.Rows.ksk_s1 _ _) (fun _ => PyProof.Rows.ksk_l1 _ _) (fun _ => rfl) q
end
end AsSort

set_option maxHeartbeats 4000000
set_option autoImplicit false
/-! zip of any two of texts, lists, tuples. -/
namespace AsZipG
open PySem PySem.Spec PyProof.Rows L2
inductive Src
  | txt (a : Str)
  | lst (p : Addr)
  | tpl (p : Addr)
def sgnV (a : Str) : List V := a.cps.toList.map fun c => .str ⟨#[c]⟩
def Src.Is (K : PySem.W.Frag) (H : Hp) : Src → List V → Prop
  | .txt a, xs => xs = sgnV a
  | .lst p, xs => SqL K H p xs
  | .tpl p, xs => SqT K H p xs
def Src.v : Src → V
  | .txt a => .str a
  | .lst p => .ref p
  | .tpl p => .ref p
/-- the iterator at it, i items on -/
def Src.iter (it i : Nat) (h : Heap) : Src → Prop
  | .txt a => ∃ t, h.IsStrIter it (strIterType a) a t i
  | .lst p => h.IsListIter it p i
  | .tpl p => h.IsTupleIter it p i
def Src.fp (it : Addr) : Src → List Addr
  | .txt _ => [it]
  | .lst p => [it, p]
  | .tpl p => [it, p]
def Src.old (n : Nat) : Src → Prop
  | .txt _ => True
  | .lst p => p < n
  | .tpl p => p < n
theorem Src.iter_obj {it i : Nat} {h : Heap} : ∀ {x : Src}, x.iter it i h → ∃ o, h.get? it = some o ∧ ∀ v, o.data ≠ .cell v
  | .txt _, ⟨_, o, e, _, d⟩ => ⟨o, e, fun v q => by rw [d] at q; cases q⟩
  | .lst _, ⟨o, e, _, d⟩ => ⟨o, e, fun v q => by rw [d] at q; cases q⟩
  | .tpl _, ⟨o, e, _, d⟩ => ⟨o, e, fun v q => by rw [d] at q; cases q⟩
theorem Src.iter_keep {it i : Nat} {h h' : Heap} (k : ∀ o, h.get? it = some o → h'.get? it = some o) : ∀ {x : Src}, x.iter it i h → x.iter it i h'
  | .txt _, ⟨t, o, e, d⟩ => ⟨t, o, k _ e, d⟩
  | .lst _, ⟨o, e, d⟩ => ⟨o, k _ e, d⟩
  | .tpl _, ⟨o, e, d⟩ => ⟨o, k _ e, d⟩
def Src.off (c : Addr) : Src → Prop
  | .txt _ => True
  | .lst p => c ≠ p
  | .tpl p => c ≠ p
theorem Src.notin {it c : Addr} (h : c ≠ it) : ∀ {x : Src}, x.off c → c ∉ x.fp it
  | .txt _, _ => by simpa [Src.fp] using h
  | .lst p, ho => by simpa [Src.fp] using ⟨h, ho⟩
  | .tpl p, ho => by simpa [Src.fp] using ⟨h, ho⟩
theorem Src.in_ (it : Addr) : ∀ x : Src, it ∈ x.fp it
  | .txt _ => by simp [Src.fp]
  | .lst _ => by simp [Src.fp]
  | .tpl _ => by simp [Src.fp]
/-- its iterator's draws, as it stands now -/
theorem draws {X : Cx} {pins : List (Addr × Obj)} {σ : L2.St} {H : Hp} {s : Shared} (I : Inv X pins σ H s) (hh : X.A.in1.handled = none) {it i : Nat} {xs : List V} : ∀ {x : Src}, x.iter it i s.heap → x.Is X.K H xs → x.off it →
    ∃ (P : Nat → Value → Prop) (St : Nat → Heap → Prop), Draws X.prog X.w X.A.in1 it (x.fp it) xs.length P St ∧ St i s.heap ∧ (∀ u v, P i u → xs[i]? = some v → RelV v u) ∧ ∀ h', St (i + 1) h' → x.iter it (i + 1) h'
  | .txt a, ⟨t, st⟩, e, _ => by
    have e : xs = sgnV a := e
    have hl : a.cps.size = xs.length := by rw [e]; unfold sgnV; rw [List.length_map, Array.length_toList]
    refine ⟨_, _, hl ▸ Draws.text hh it a t, st, fun u v ⟨c, u2, h1, h2⟩ hv => ?_, fun h' st' => ⟨t, st'⟩⟩
    rw [e] at hv
    unfold sgnV at hv
    rw [List.getElem?_map, Array.getElem?_toList, h1] at hv
    have hv := Option.some.inj hv
    rw [← hv, h2]
    exact ⟨_, rfl⟩
  | .lst p, st, e, n => by
    obtain ⟨its, rv, pl, _⟩ := I.list e
    have hl : its.toArray.size = xs.length := by rw [List.size_toArray]; exact rv.length.symm
    refine ⟨_, _, hl ▸ Draws.list hh it p (fun q => n q.symm) its.toArray, ⟨st, pl.isList⟩, fun u v h1 hv => ?_, fun h' st' => st'.1⟩
    obtain ⟨u2, hu, ru⟩ := rv.get hv
    have h1 : its.toArray[i]? = some u := h1
    have h1 : its[i]? = some u := by simpa using h1
    rw [hu] at h1
    cases h1
    exact ru
  | .tpl p, st, e, n => by
    obtain ⟨its, rv, pl, _⟩ := I.tuple e
    have hl : its.toArray.size = xs.length := by rw [List.size_toArray]; exact rv.length.symm
    refine ⟨_, _, hl ▸ Draws.tuple hh it p (fun q => n q.symm) its.toArray, ⟨st, pl⟩, fun u v h1 hv => ?_, fun h' st' => st'.1⟩
    obtain ⟨u2, hu, ru⟩ := rv.get hv
    have h1 : its.toArray[i]? = some u := h1
    have h1 : its[i]? = some u := by simpa using h1
    rw [hu] at h1
    cases h1
    exact ru
/-- the items of both, turn by turn, in new pairs -/
def ItG (K : PySem.W.Frag) (a b : Src) : It :=
  ⟨fun i H => ∃ (xs ys : List V) (x y : V), a.Is K H xs ∧ b.Is K H ys ∧ xs[i]? = some x ∧ ys[i]? = some y,
    fun i H v H' => ∃ T x y, v = .ref T ∧ H T = none ∧ H' = upd H T (.tup [x, y]) ∧ (∀ xs, a.Is K H xs → xs[i]? = some x) ∧ ∀ ys, b.Is K H ys → ys[i]? = some y,
    fun i H => ∃ xs ys : List V, a.Is K H xs ∧ b.Is K H ys ∧ i ≤ xs.length ∧ i ≤ ys.length ∧ (i = xs.length ∨ i = ys.length)⟩
theorem is_inj {X : Cx} {pins : List (Addr × Obj)} {σ : L2.St} {H : Hp} {s : Shared} (I : Inv X pins σ H s) : ∀ {x : Src} {xs ys : List V}, x.Is X.K H xs → x.Is X.K H ys → xs = ys
  | .txt _, _, _, e, e2 => Eq.trans e (Eq.symm e2)
  | .lst _, _, _, e, e2 => I.list_inj e e2
  | .tpl _, _, _, e, e2 => I.tuple_inj e e2
structure Apart (a b : Src) (z TI TO i1 i2 : Addr) : Prop where
  sep : ZipSep2 z TI TO i1 i2 (a.fp i1) (b.fp i2)
  o1 : a.off i1
  o2 : b.off i2
  n12 : i1 ≠ i2
  zi1 : i1 ≠ z
  zi2 : i2 ≠ z
theorem turn_zipG {P : Program} {w : World} {K : PySem.W.Frag} {elts : List Expr} {kk : Nat} {tpos : Pos} {a b : Src} {z TI TO i1 i2 : Addr} (D : Apart a b z TI TO i1 i2) :
    Turn P w K (.Tuple elts kk tpos) (ItG K a b) [z, TI, TO, i1, i2] z (fun i h => IsZip h z TI TO .none ∧ IsTupOf2 h TI (.ref i1) (.ref i2) ∧ (∃ x y, IsTupOf2 h TO x y) ∧ a.iter i1 i h ∧ b.iter i2 i h) where
  mem := List.mem_cons_self ..
  obj := fun i h st c hc => by
    obtain ⟨hz, hTI, ⟨x, y, hTO⟩, h1, h2⟩ := st
    simp only [List.mem_cons, List.not_mem_nil, or_false] at hc
    rcases hc with rfl | rfl | rfl | rfl | rfl
    · exact ⟨_, hz, (fun _ q => nomatch q)⟩
    · exact ⟨_, hTI, (fun _ q => nomatch q)⟩
    · exact ⟨_, hTO, (fun _ q => nomatch q)⟩
    · exact Src.iter_obj h1
    · exact Src.iter_obj h2
  keep := fun i h h' st k => by
    obtain ⟨hz, hTI, ⟨x, y, hTO⟩, h1, h2⟩ := st
    exact ⟨k z (by simp) _ hz, k TI (by simp) _ hTI, ⟨x, y, k TO (by simp) _ hTO⟩, Src.iter_keep (k i1 (by simp)) h1, Src.iter_keep (k i2 (by simp)) h2⟩
  item := by
    intro X hP hw hK hc i pins s σ H E I hf st hg
    subst hP hw hK
    obtain ⟨hz, hTI, ⟨x0, y0, hTO⟩, h1, h2⟩ := st
    obtain ⟨xs, ys, x, y, hqx, hqy, hx, hy⟩ := hg
    have hh : X.A.in1.handled = none := I.ok.hd hc
    obtain ⟨P1, St1, D1, st1, r1, k1⟩ := draws I hh h1 hqx D.o1
    obtain ⟨P2, St2, D2, st2, r2, k2⟩ := draws I hh h2 hqy D.o2
    have S := D.sep
    refine wpAny_pyNext_zipD2_item S D1 D2 hz hTI hTO st1 st2 (List.getElem?_eq_some_iff.mp hx).1 (List.getElem?_eq_some_iff.mp hy).1 fun x1 x2 h' tk y1 y2 z' TO' st1' st2' hT hsz hk => ?_
    have rx := r1 _ _ y1 hx
    have ry := r2 _ _ y2 hy
    have lt : ∀ {c o}, s.heap.get? c = some o → c < s.heap.objs.size := fun e => Heap.lt_size e
    have hzl := lt hz
    refine ⟨_, rfl, wpAny_letOwnedTupleGo_zip (s := { s with heap := h', toks := tk }) z' fun h'' z'' sb => ?_⟩
    have sb2 : ∀ c o, c ≠ z → h'.get? c = some o → h''.get? c = some o := fun c o n e => sb.extBut c o n e
    have hT2 := sb2 _ _ (Nat.ne_of_gt hzl) hT
    have new : ObjOk X.prog X.w (upd H s.heap.objs.size (.tup [x, y])) h'' s.heap.objs.size (.tup [x, y]) := ⟨by show 2 ≤ sizeLine; decide, _, .cons rx (.cons ry .nil), ⟨_, hT2, rfl, _, rfl⟩⟩
    have I1 : Inv X pins σ (upd H s.heap.objs.size (.tup [x, y])) { s with heap := h'', toks := tk } :=
      I.turnedNew (t' := tk) (ch := [z, TI, TO, i1, i2]) (fun c o hb q => sb2 c o (fun e => hb (by simp [e])) (hk c o (fun e => hb (by simp [e])) (fun e => hb (by simp [e])) (fun e => hb (by simp [e])) (fun e => hb (by simp [e])) q)) hf (Nat.le_refl _) new
    refine ⟨.ref s.heap.objs.size, _, I1, rfl, ⟨_, x, y, rfl, I.hok.fresh (Nat.le_refl _), rfl, fun l hl => by rw [is_inj I hl hqx]; exact hx, fun l hl => by rw [is_inj I hl hqy]; exact hy⟩, ⟨z'', sb2 _ _ S.TIz (hk _ _ S.TIz S.TITO S.TIi1 S.TIi2 hTI), ⟨_, _, sb2 _ _ S.TOz TO'⟩, Src.iter_keep (fun o e => sb2 _ _ D.zi1 e) (k1 _ st1'), Src.iter_keep (fun o e => sb2 _ _ D.zi2 e) (k2 _ st2')⟩, fun c' hcm => ?_⟩
    have hlt : c' < s.heap.objs.size := by
      simp only [List.mem_cons, List.not_mem_nil, or_false] at hcm
      obtain ⟨_, w1, _⟩ := Src.iter_obj h1
      obtain ⟨_, w2, _⟩ := Src.iter_obj h2
      rcases hcm with rfl | rfl | rfl | rfl | rfl
      · exact hzl
      · exact lt hTI
      · exact lt hTO
      · exact lt w1
      · exact lt w2
    rw [upd_ne (Nat.ne_of_lt hlt)]
    exact (hf c' hcm).1
  done := by
    intro X hP hw hK hc i pins s σ H E I hf st hg
    subst hP hw hK
    obtain ⟨hz, hTI, ⟨x0, y0, hTO⟩, h1, h2⟩ := st
    obtain ⟨xs, ys, hqx, hqy, l1, l2, le⟩ := hg
    have hh : X.A.in1.handled = none := I.ok.hd hc
    obtain ⟨P1, St1, D1, st1, r1, k1⟩ := draws I hh h1 hqx D.o1
    obtain ⟨P2, St2, D2, st2, r2, k2⟩ := draws I hh h2 hqy D.o2
    refine wpAny_pyNext_zipD2_end D.sep D1 D2 hz hTI hTO st1 st2 l1 l2 le fun h' tk hk => ⟨rfl, I.turnedL (t' := tk) (ch := [z, TI, TO, i1, i2]) (fun c o hb q => ?_) hf⟩
    exact hk c o (fun e => hb (by simp [e])) (fun e => hb (by simp [e])) (fun e => hb (by simp [e])) (fun e => hb (by simp [e])) q
  self := fun A i s Q E st h => wpAny_pyIter_zip st.1 h
/-- how a source begins -/
theorem begins {X : Cx} {pins : List (Addr × Obj)} {σ : L2.St} {H : Hp} {s : Shared} (I : Inv X pins σ H s) {xs : List V} : ∀ {x : Src} {u : Value}, x.Is X.K H xs → RelV x.v u → ∃ (o : Obj) (Hq : Heap → Prop), Begins u o Hq ∧ Hq s.heap ∧ (∀ h it, h.get? it = some o → x.iter it 0 h) ∧ x.old s.heap.objs.size
  | .txt a, u, _, ⟨t, e⟩ => by
    subst e
    exact ⟨_, _, begins_text a t, trivial, fun h it e => ⟨t, _, e, rfl, rfl⟩, trivial⟩
  | .lst p, u, e, r => by
    cases r
    obtain ⟨its, rv, pl, _⟩ := I.list e
    exact ⟨_, _, begins_list p its.toArray, pl.isList, fun h it e => ⟨_, e, rfl, rfl⟩, pl.lt⟩
  | .tpl p, u, e, r => by
    cases r
    obtain ⟨its, rv, pl, _⟩ := I.tuple e
    obtain ⟨o, ho, _⟩ := id pl
    exact ⟨_, _, begins_tuple p its.toArray, pl, fun h it e => ⟨_, e, rfl, rfl⟩, Heap.lt_size ho⟩
theorem off_new {n k : Nat} : ∀ {x : Src}, x.old n → x.off (n + k)
  | .txt _, _ => trivial
  | .lst p, h => fun e => Nat.ne_of_gt (Nat.lt_of_lt_of_le (show p < n from h) (Nat.le_add_right n k)) e
  | .tpl p, h => fun e => Nat.ne_of_gt (Nat.lt_of_lt_of_le (show p < n from h) (Nat.le_add_right n k)) e
def iZipG (K : PySem.W.Frag) (ta : TA) : TI := fun σ H R => ta σ H fun vs H1 => ∃ (a b : Src) (xs ys : List V), vs = [a.v, b.v] ∧ a.Is K H1 xs ∧ b.Is K H1 ys ∧ R (ItG K a b) H1
theorem pi_zipG {X : Cx} {e e2 : Expr} {ta : TA} {p pos tpos : Pos} {elts : List Expr} {kk : Nat} (hg : Gl X "zip") (hm : X.mg "zip" = none) (ha : PA X [e, e2] ta)
    (hs : starEach [e, e2] X.env = (false, eval e X.env) :: starEach [e2] X.env := by rfl) (hpl : (backTo pos (starEach [e2] X.env)).any (·.1) = false := by rfl) : PI X (.Tuple elts kk tpos) (.Call (.Name "zip" p) [e, e2] [] pos) (iZipG X.K ta) := by
  refine ⟨fun pins s σ H R I h => ?_⟩
  refine Call_ (ld_blt I hg hm PyProof.Rows.boot_zip (PyProof.Rows.callWith_type1 (thn (ha.run pos pins s σ H _ I h) fun us s1 ⟨vs, H1, I1, r1, a, b, xs, ys, ev, qx, qy, q⟩ => ?_) hs hpl))
  subst ev
  obtain ⟨u1, u2, rfl, r, r'⟩ := vals2 r1
  obtain ⟨o1, Hq1, B1, b1, it1, old1⟩ := begins I1 qx r
  obtain ⟨o2, Hq2, B2, b2, it2, old2⟩ := begins I1 qy r'
  have ns : ∀ k, k ≤ 4 → FpOk X pins H1 (s1.heap.objs.size + k) := fun k _ => I1.fpOk (Nat.le_add_right _ _) (I1.hok.fresh (Nat.le_add_right _ _))
  refine zip_begins2 B1 B2 b1 b2 fun h' hz hTI hTO g1 g2 hsz hk => wpAny_pyIter_zip hz ?_
  have I2 : Inv X pins σ H1 { s1 with heap := h' } := I1.kept (t' := s1.toks) hk
  have ne : ∀ {i j : Nat}, i ≠ j → s1.heap.objs.size + i ≠ s1.heap.objs.size + j := fun h e => h (Nat.add_left_cancel e)
  have ap : Apart a b (s1.heap.objs.size + 4) (s1.heap.objs.size + 2) (s1.heap.objs.size + 3) s1.heap.objs.size (s1.heap.objs.size + 1) :=
    ⟨⟨ne (by decide), ne (by decide), ne (by decide), ne (i := 2) (j := 0) (by decide), a.in_ _, Src.notin (ne (i := 4) (j := 0) (by decide)) (off_new old1), Src.notin (ne (i := 3) (j := 0) (by decide)) (off_new old1), ne (by decide), b.in_ _, Src.notin (ne (by decide)) (off_new old2), Src.notin (ne (by decide)) (off_new old2), Src.notin (ne (i := 0) (j := 1) (by decide)) (off_new (k := 0) old2), Src.notin (ne (i := 1) (j := 0) (by decide)) (off_new old1)⟩, off_new (k := 0) old1, off_new old2, ne (i := 0) (j := 1) (by decide), ne (i := 0) (j := 4) (by decide), ne (by decide)⟩
  refine ⟨s1.heap.objs.size + 4, [s1.heap.objs.size + 4, s1.heap.objs.size + 2, s1.heap.objs.size + 3, s1.heap.objs.size, s1.heap.objs.size + 1], _, ItG X.K a b, H1, rfl, I2, turn_zipG ap, ⟨hz, hTI, ⟨_, _, hTO⟩, it1 _ _ g1, it2 _ _ g2⟩, fun c hc => ?_, q⟩
  simp only [List.mem_cons, List.not_mem_nil, or_false] at hc
  rcases hc with rfl | rfl | rfl | rfl | rfl
  · exact ns 4 (by decide)
  · exact ns 2 (by decide)
  · exact ns 3 (by decide)
  · exact ns 0 (by decide)
  · exact ns 1 (by decide)
/-- a loop over both -/
theorem for_zipG {K : PySem.W.Frag} {a b : Src} {xs ys : List V} {n : Nat} {g : TG} {tb : TS} {D : Ends} {σ : L2.St} {H : Hp} (hn : n = min xs.length ys.length) (Pv : Nat → L2.St → Hp → Prop) (h0 : Pv 0 σ H) (hq : ∀ i σ H, Pv i σ H → a.Is K H xs ∧ b.Is K H ys)
    (hs : ∀ (i : Nat) (x y : V) (T : Addr) (σ : L2.St) (H : Hp), xs[i]? = some x → ys[i]? = some y → Pv i σ H → H T = none → g (.ref T) σ (upd H T (.tup [x, y])) fun σ2 H2 => tb { D with nx := Pv (i + 1), ct := Pv (i + 1), bk := D.nx } σ2 H2) (hd : ∀ σ H, Pv n σ H → D.nx σ H) :
    ∃ W : Nat → Nat → L2.St → Hp → Prop, (∃ m, W 0 m σ H) ∧ ∀ i m σ H, W i m σ H →
      ((ItG K a b).stop i H ∧ D.nx σ H) ∨ ((ItG K a b).go i H ∧ ∃ N : L2.St → Hp → Prop, (∀ σ' H', N σ' H' → ∃ m', m' < m ∧ W (i + 1) m' σ' H') ∧ ∀ v H', (ItG K a b).yld i H v H' → g v σ H' fun σ2 H2 => tb { D with nx := N, ct := N, bk := D.nx } σ2 H2) := by
  refine ⟨fun i m σ H => m = n - i ∧ i ≤ n ∧ Pv i σ H, ⟨n, rfl, Nat.zero_le _, h0⟩, ?_⟩
  rintro i m σ H ⟨rfl, hi, p⟩
  obtain ⟨qx, qy⟩ := hq i σ H p
  by_cases hlt : i < n
  · have l1 : i < xs.length := by omega
    have l2 : i < ys.length := by omega
    have hx : xs[i]? = some xs[i] := List.getElem?_eq_getElem l1
    have hy : ys[i]? = some ys[i] := List.getElem?_eq_getElem l2
    refine .inr ⟨⟨xs, ys, _, _, qx, qy, hx, hy⟩, Pv (i + 1), fun σ' H' p' => ⟨n - (i + 1), by omega, rfl, hlt, p'⟩, fun v H' y => ?_⟩
    obtain ⟨T, x', y', rfl, hT, rfl, f1, f2⟩ := y
    exact hs i x' y' T σ H (f1 xs qx) (f2 ys qy) p hT
  · have e : i = n := by omega
    subst e
    exact .inl ⟨⟨xs, ys, qx, qy, by omega, by omega, by omega⟩, hd σ H p⟩
open AsSort AsKit
open Evl (Ex Ev EvT EvA)
/-- data of a source: what its value is, and its items' data -/
def itemsD : PyData → List PyData
  | .str z => sgns z
  | .list ds => ds
  | .tuple ds => ds
  | _ => []
def isSrc : PyData → Bool
  | .str _ => true
  | .list _ => true
  | .tuple _ => true
  | _ => false
theorem dp_sgns {K : PySem.W.Frag} {H : Hp} (z : Str) : DpAll K H (sgnV z) (sgns z) := by
  unfold sgnV sgns
  generalize z.cps.toList = l
  induction l with
  | nil => exact .nil
  | cons c l ih => exact .cons (.str _) ih
theorem src_of {K : PySem.W.Frag} {H : Hp} {v : V} {d : PyData} (h : Dp K H v d) (hs : isSrc d = true) : ∃ (a : Src) (xs : List V), v = a.v ∧ a.Is K H xs ∧ DpAll K H xs (itemsD d) ∧ ∀ H', Ex H H' → a.Is K H' xs := by
  cases h with
  | str x => exact ⟨.txt x, _, rfl, rfl, dp_sgns x, fun _ _ => rfl⟩
  | lst a b => exact ⟨.lst _, _, rfl, a, b, fun H' e => Evl.ex_l e a⟩
  | tup a b => exact ⟨.tpl _, _, rfl, a, b, fun H' e => Evl.ex_t e a⟩
  | _ => cases hs
def pairsG (d e : PyData) : List PyData := ((itemsD d).zip (itemsD e)).map fun p => .tuple [p.1, p.2]
theorem cd_ex {K : PySem.W.Frag} {H H1 H2 : Hp} {ds : List PyData} {f : PyData → Bool} {g : PyData → PyData} {D : Addr} {i : Nat} (p : Cd K H ds f g D i H1) (e : Ex H1 H2) : Cd K H ds f g D i H2 := by
  obtain ⟨p1, p2, acc, p3, p4⟩ := p
  exact ⟨p1, p2.trans e, acc, e _ _ p3, dpAll_ex e p4⟩
/-- [e for x, y in zip(xs, ys)] -/
theorem d_lcG {K : PySem.W.Frag} {σ : L2.St} {H : Hp} {ta : TA} {t : TT} {te : TE} {gt : TG} {vs : List Nat} {d e : PyData} (f : PyData → Bool) (g : PyData → PyData) (h : EvDs K ta σ H [d, e]) (s1 : isSrc d = true) (s2 : isSrc e = true) (hz : (itemsD d).length ≤ 50000) (him : ∀ x ∈ pairsG d e, f x = true → imm (g x) = true) (ht : ∀ x ∈ pairsG d e, Turn K gt t te vs σ H x (f x) (g x)) :
    EvD K (tLc (iZipG K ta) gt t te vs) σ H (.list (((pairsG d e).filter f).map g)) := fun H1 x Q q => h H1 x _ fun us H2 e2 hu => by
  cases hu with
  | cons h1 hu =>
  cases hu with
  | cons h2 hu =>
  cases hu
  obtain ⟨a, xs, rfl, ia, da, ka⟩ := src_of h1 s1
  obtain ⟨b, ys, rfl, ib, db, kb⟩ := src_of h2 s2
  have la : xs.length = (itemsD d).length := dpAll_len da
  have lb : ys.length = (itemsD e).length := dpAll_len db
  have lz : (pairsG d e).length = min xs.length ys.length := by unfold pairsG; rw [List.length_map, List.length_zip, la, lb]
  refine ⟨a, b, xs, ys, rfl, ia, ib, fun D hD => ⟨fun i m H' => m = min xs.length ys.length - i ∧ i ≤ min xs.length ys.length ∧ Cd K H2 (pairsG d e) f g D i H', ⟨_, rfl, Nat.zero_le _, cd_start hD⟩, ?_⟩⟩
  rintro i m H' ⟨rfl, hi, p⟩
  have qx := ka H' p.2.1
  have qy := kb H' p.2.1
  by_cases hlt : i < min xs.length ys.length
  · have l1 : i < xs.length := by omega
    have l2 : i < ys.length := by omega
    have hx : xs[i]? = some xs[i] := List.getElem?_eq_getElem l1
    have hy : ys[i]? = some ys[i] := List.getElem?_eq_getElem l2
    refine .inr ⟨⟨xs, ys, _, _, qx, qy, hx, hy⟩, fun G => Cd K H2 (pairsG d e) f g D (i + 1) G, fun G hG => ⟨_, (by omega : min xs.length ys.length - (i + 1) < min xs.length ys.length - i), rfl, (by omega), hG⟩, fun y G hy2 => ?_⟩
    obtain ⟨T, x', y', rfl, nT, rfl, f1, f2⟩ := hy2
    have f1 := f1 xs qx
    have f2 := f2 ys qy
    have l3 : i < (itemsD d).length := by omega
    have l4 : i < (itemsD e).length := by omega
    have d1 : (itemsD d)[i]? = some (itemsD d)[i] := List.getElem?_eq_getElem l3
    have d2 : (itemsD e)[i]? = some (itemsD e)[i] := List.getElem?_eq_getElem l4
    have xT : Ex H' (upd H' T (.tup [x', y'])) := Ex.new nT
    have hdi : (pairsG d e)[i]? = some (.tuple [(itemsD d)[i], (itemsD e)[i]]) := by
      unfold pairsG
      rw [List.getElem?_map, List.getElem?_zip_eq_some (z := ((itemsD d)[i], (itemsD e)[i])).mpr ⟨d1, d2⟩]
      rfl
    have hx2 : Dp K (upd H' T (.tup [x', y'])) (.ref T) (.tuple [(itemsD d)[i], (itemsD e)[i]]) := .tup (Evl.st_of upd_same) (.cons (dp_ex (p.2.1.trans xT) (dpAll_get da f1 d1)) (.cons (dp_ex (p.2.1.trans xT) (dpAll_get db f2 d2)) .nil))
    exact ht _ (List.mem_of_getElem? hdi) _ _ (x.trans (e2.trans (p.2.1.trans xT))) hx2 _ fun σ2 w h1 h2 => ⟨w, cd_turn him (cd_ex p xT) hdi (by omega) h1 h2⟩
  · have e : i = (pairsG d e).length := by omega
    rw [e] at p
    have z := cd_end p
    exact .inl ⟨⟨xs, ys, qx, qy, by omega, by omega, by omega⟩, q _ H' (e2.trans z.1) z.2⟩
end AsZipG

set_option maxHeartbeats 4000000
set_option autoImplicit false
/-! enumerate of a text, a list or a tuple. -/
namespace AsZipG
open PySem PySem.Spec PyProof.Rows L2
open AutoSeq1 (wpAny_loadPart')
theorem meets_enum0 {v : Value} {o : Obj} {H : Heap → Prop} (B : Begins v o H) :
    Meets (Builtin.«enumerate.__new__» ⟨[.type "enumerate", v], []⟩) (fun _ R s => H s.heap ∧
      R (.ok (.ret (.ref (s.heap.push o).objs.size))) { s with heap := (s.heap.push o).push { cls := .type "enumerate", data := .fields #[.none, .bool false, .ref s.heap.objs.size, rawInt 0, .none, .none] } }) :=
  .of_wp fun prog w A R s h => by
    obtain ⟨hp, g, d, tk, os⟩ := s; obtain ⟨h1, h⟩ := h
    have hsub := sub_enumerate
    have q1 : ∀ {A' : Around} {E : Value → Shared → Prop} {Q : Value → Shared → Prop}, Q (.ref hp.objs.size) ⟨hp.push o, g, d, tk, os⟩ → wpAny (model prog w) A' (pyIter v) Q E ⟨hp, g, d, tk, os⟩ :=
      fun q => B.iter prog w _ _ ⟨hp, g, d, tk, os⟩ _ h1 q
    wp_walk using q1
    refine wpAny_stack_any fun st => wpAny_pure ?_
    split
    · rename_i c _ _ _ _ _
      cases (c == Value.type "enumerate")
      · wp_walk using q1
        exact ⟨_, rfl, h⟩
      · wp_walk using q1
        exact ⟨_, rfl, h⟩
    · wp_walk using q1
      exact ⟨_, rfl, h⟩
theorem enum0_begins {prog : Program} {w : World} {A : Around} {E : Value → Shared → Prop} {s : Shared} {v : Value} {o : Obj} {H : Heap → Prop} {Q : Value → Shared → Prop} (B : Begins v o H) (h1 : H s.heap)
    (h : ∀ h', IsEnum h' (s.heap.objs.size + 1) s.heap.objs.size 0 .none → h'.get? s.heap.objs.size = some o → h'.objs.size = s.heap.objs.size + 2 →
      (∀ b o, s.heap.get? b = some o → h'.get? b = some o) → Q (.ref (s.heap.objs.size + 1)) { s with heap := h' }) :
    wpAny (model prog w) A (call (.type "enumerate") [v]) Q E s := by
  refine callType_new F.called_enumerate (by decide) (F.typeCall_enumerate_1 _) (F.newCall_enumerate_1 _) (fun obj => F.args_object_init_2 obj _) F.entry_enumerate_new
    (meets_enum0 B) ⟨h1, ?_⟩
  have hz : (s.heap.push o).objs.size = s.heap.objs.size + 1 := Heap.size_push ..
  show _ ∧ _
  rw [hz]
  have he : IsEnum ((s.heap.push o).push { cls := .type "enumerate", data := .fields #[.none, .bool false, .ref s.heap.objs.size, rawInt 0, .none, .none] }) (s.heap.objs.size + 1) s.heap.objs.size 0 .none := by
    have := Heap.get?_push_size (s.heap.push o) (o := { cls := .type "enumerate", data := .fields #[.none, .bool false, .ref s.heap.objs.size, rawInt 0, .none, .none] }) rfl
    rw [hz] at this; exact this
  refine ⟨⟨_, he, rfl⟩, h _ he (Heap.get?_push_of_some _ (Heap.get?_push_size _ B.free)) (by rw [Heap.size_push, hz]) fun b o x => Heap.get?_push_of_some _ (Heap.get?_push_of_some _ x)⟩
/-- each item in a new pair, its number ahead -/
def IteG (K : PySem.W.Frag) (a : Src) : It :=
  ⟨fun i H => ∃ (xs : List V) (x : V), a.Is K H xs ∧ xs[i]? = some x, fun i H v H' => ∃ T x, v = .ref T ∧ H T = none ∧ H' = upd H T (.tup [.int (i : Nat), x]) ∧ ∀ xs, a.Is K H xs → xs[i]? = some x, fun i H => ∃ xs : List V, a.Is K H xs ∧ xs.length = i⟩
theorem turn_enumG {P : Program} {w : World} {K : PySem.W.Frag} {elts : List Expr} {kk : Nat} {tpos : Pos} {a : Src} {e it : Addr} (hoff : a.off it) (hoe : a.off e) (hne : e ≠ it) :
    Turn P w K (.Tuple elts kk tpos) (IteG K a) [e, it] e (fun i h => (∃ old, IsEnum h e it ((i : Nat) : Int) old) ∧ a.iter it i h) where
  mem := by simp
  obj := fun i h st b hb => by
    obtain ⟨⟨old, he⟩, hi⟩ := st
    have e' : b = e ∨ b = it := by simpa using hb
    rcases e' with z | z
    · rw [z]; exact ⟨_, he, fun v q => nomatch q⟩
    · rw [z]; exact Src.iter_obj hi
  keep := fun i h h' st k => let ⟨⟨old, he⟩, hi⟩ := st; ⟨⟨old, k e (by simp) _ he⟩, Src.iter_keep (k it (by simp)) hi⟩
  item := by
    intro X hP hw hK hc i pins s σ H E I hf st hg
    subst hP hw hK
    obtain ⟨⟨old, he⟩, hit⟩ := st
    obtain ⟨xs, x, hq, hx⟩ := hg
    have hh : X.A.in1.handled = none := I.ok.hd hc
    obtain ⟨P1, St1, D1, st1, r1, k1⟩ := draws I hh hit hq hoff
    have hel : e < s.heap.objs.size := Heap.lt_size he
    have hil : it < s.heap.objs.size := by obtain ⟨_, q, _⟩ := Src.iter_obj hit; exact Heap.lt_size q
    refine wpAny_pyNext_enum_itemD D1 he st1 (List.getElem?_eq_some_iff.mp hx).1 hne (Src.notin hne hoe) fun u h' tk hu ho st' hT hsz hk => ?_
    have ru := r1 _ _ hu hx
    refine ⟨_, rfl, wpAny_letOwnedTupleGo_enum (s := { s with heap := h', toks := tk + 1 }) ho fun h'' he' sb => ?_⟩
    have hT2 : h''.get? s.heap.objs.size = some { cls := .type "tuple", data := .seq #[.int i tk, u] } := (sb.2 _ (Nat.ne_of_gt hel)).trans hT
    have new : ObjOk X.prog X.w (upd H s.heap.objs.size (.tup [.int (i : Nat), x])) h'' s.heap.objs.size (.tup [.int (i : Nat), x]) :=
      ⟨by show 2 ≤ sizeLine; decide, [.int i tk, u], .cons ⟨_, rfl⟩ (.cons ru .nil), ⟨_, hT2, rfl, _, rfl⟩⟩
    have I1 : Inv X pins σ (upd H s.heap.objs.size (.tup [.int (i : Nat), x])) { s with heap := h'', toks := tk + 1 } :=
      I.turnedNew (ch := [e, it]) (fun b ob hb q => (sb.2 b (fun z => hb (by simp [z]))).trans (hk b ob (fun z => hb (by simp [z])) (fun z => hb (by simp [z])) q)) hf (Nat.le_refl _) new
    refine ⟨.ref s.heap.objs.size, _, I1, rfl, ⟨_, x, rfl, I.hok.fresh (Nat.le_refl _), rfl, fun ys hy => by rw [is_inj I hy hq]; exact hx⟩, ⟨⟨u, ?_⟩, Src.iter_keep (fun o q => (sb.2 it (Ne.symm hne)).trans q) (k1 _ st')⟩, fun b hb => ?_⟩
    · have e1 : ((i + 1 : Nat) : Int) = (i : Int) + 1 := by omega
      rw [e1]; exact he'
    · have hb' : b < s.heap.objs.size := by
        have e' : b = e ∨ b = it := by simpa using hb
        rcases e' with z | z
        · rw [z]; exact hel
        · rw [z]; exact hil
      rw [upd_ne (Nat.ne_of_lt hb')]
      exact (hf b hb).1
  done := by
    intro X hP hw hK hc i pins s σ H E I hf st hg
    subst hP hw hK
    obtain ⟨⟨old, he⟩, hit⟩ := st
    obtain ⟨xs, hq, hx⟩ := hg
    have hh : X.A.in1.handled = none := I.ok.hd hc
    obtain ⟨P1, St1, D1, st1, r1, k1⟩ := draws I hh hit hq hoff
    obtain ⟨f0, f1, f2, f3, f4, f5⟩ := hf it (by simp)
    rw [← hx] at st1 he
    exact wpAny_pyNext_enum_endD D1 he st1 fun h' eb => ⟨rfl, I.turned (t' := s.toks) (fun b o hb q => eb b o hb q) f0 f1 f3 f4 f5⟩
  self := fun A i s Q E st h => let ⟨⟨_, he⟩, _⟩ := st; wpAny_pyIter_enum he h
def iEnumG (K : PySem.W.Frag) (ta : TA) : TI := fun σ H R => ta σ H fun vs H1 => ∃ (a : Src) (xs : List V), vs = [a.v] ∧ a.Is K H1 xs ∧ R (IteG K a) H1
theorem pi_enumG {X : Cx} {e : Expr} {ta : TA} {p pos tpos : Pos} {elts : List Expr} {kk : Nat} (hg : Gl X "enumerate") (hm : X.mg "enumerate" = none) (ha : PA X [e] ta) (hs : starEach [e] X.env = [(false, eval e X.env)] := by rfl) :
    PI X (.Tuple elts kk tpos) (.Call (.Name "enumerate" p) [e] [] pos) (iEnumG X.K ta) := by
  refine ⟨fun pins s σ H R I h => ?_⟩
  refine Call_ (ld_blt I hg hm boot_enumerate (PyProof.Rows.callWith_type1 (thn (ha.run pos pins s σ H _ I h) fun us s1 ⟨vs, H1, I1, r1, a, xs, ev, hq, q⟩ => ?_) hs rfl))
  subst ev
  obtain ⟨u, rfl, r⟩ := vals1 r1
  obtain ⟨o1, Hq1, B1, b1, it1, old1⟩ := begins I1 hq r
  refine enum0_begins B1 b1 fun h' he g1 hsz hk => wpAny_pyIter_enum he ?_
  have I2 : Inv X pins σ H1 { s1 with heap := h' } := I1.kept (t' := s1.toks) hk
  refine ⟨s1.heap.objs.size + 1, [s1.heap.objs.size + 1, s1.heap.objs.size], _, _, H1, rfl, I2, turn_enumG (off_new (k := 0) old1) (off_new (k := 1) old1) (Nat.succ_ne_self _), ⟨⟨.none, he⟩, it1 _ _ g1⟩, fun b hb => ?_, q⟩
  have e' : b = s1.heap.objs.size + 1 ∨ b = s1.heap.objs.size := by simpa using hb
  have hle : s1.heap.objs.size ≤ b := by
    rcases e' with z | z
    · rw [z]; exact Nat.le_add_right _ _
    · rw [z]; exact Nat.le_refl _
  exact I1.fpOk hle (I1.hok.fresh hle)
theorem for_enumG {K : PySem.W.Frag} {a : Src} {xs : List V} {g : TG} {tb : TS} {D : Ends} {σ : L2.St} {H : Hp} (Pv : Nat → L2.St → Hp → Prop) (h0 : Pv 0 σ H) (hq : ∀ i σ H, Pv i σ H → a.Is K H xs)
    (hs : ∀ (i : Nat) (x : V) (T : Addr) (σ : L2.St) (H : Hp), xs[i]? = some x → Pv i σ H → H T = none → g (.ref T) σ (upd H T (.tup [.int (i : Nat), x])) fun σ2 H2 => tb { D with nx := Pv (i + 1), ct := Pv (i + 1), bk := D.nx } σ2 H2) (hd : ∀ σ H, Pv xs.length σ H → D.nx σ H) :
    ∃ W : Nat → Nat → L2.St → Hp → Prop, (∃ m, W 0 m σ H) ∧ ∀ i m σ H, W i m σ H →
      ((IteG K a).stop i H ∧ D.nx σ H) ∨ ((IteG K a).go i H ∧ ∃ N : L2.St → Hp → Prop, (∀ σ' H', N σ' H' → ∃ m', m' < m ∧ W (i + 1) m' σ' H') ∧ ∀ v H', (IteG K a).yld i H v H' → g v σ H' fun σ2 H2 => tb { D with nx := N, ct := N, bk := D.nx } σ2 H2) := by
  refine ⟨fun i m σ H => m = xs.length - i ∧ i ≤ xs.length ∧ Pv i σ H, ⟨xs.length, rfl, Nat.zero_le _, h0⟩, ?_⟩
  rintro i m σ H ⟨rfl, hi, p⟩
  have qx := hq i σ H p
  by_cases hlt : i < xs.length
  · have hx : xs[i]? = some xs[i] := List.getElem?_eq_getElem hlt
    refine .inr ⟨⟨xs, _, qx, hx⟩, Pv (i + 1), fun σ' H' p' => ⟨xs.length - (i + 1), by omega, rfl, hlt, p'⟩, fun v H' y => ?_⟩
    obtain ⟨T, x', rfl, hT, rfl, f1⟩ := y
    exact hs i x' T σ H (f1 xs qx) p hT
  · have e : i = xs.length := by omega
    subst e
    exact .inl ⟨⟨xs, qx, rfl⟩, hd σ H p⟩
open AsSort AsKit
open Evl (Ex Ev EvT EvA)
def enumD (d : PyData) : List PyData := (itemsD d).zipIdx.map fun p => .tuple [.int (p.2 : Int), p.1]
/-- [e for i, x in enumerate(xs)] -/
theorem d_lcE {K : PySem.W.Frag} {σ : L2.St} {H : Hp} {ta : TA} {t : TT} {te : TE} {gt : TG} {vs : List Nat} {d : PyData} (f : PyData → Bool) (g : PyData → PyData) (h : EvDs K ta σ H [d]) (s1 : isSrc d = true) (hz : (itemsD d).length ≤ 50000) (him : ∀ x ∈ enumD d, f x = true → imm (g x) = true) (ht : ∀ x ∈ enumD d, Turn K gt t te vs σ H x (f x) (g x)) :
    EvD K (tLc (iEnumG K ta) gt t te vs) σ H (.list (((enumD d).filter f).map g)) := fun H1 x Q q => h H1 x _ fun us H2 e2 hu => by
  cases hu with
  | cons h1 hu =>
  cases hu
  obtain ⟨a, xs, rfl, ia, da, ka⟩ := src_of h1 s1
  have la : xs.length = (itemsD d).length := dpAll_len da
  have lz : (enumD d).length = xs.length := by unfold enumD; rw [List.length_map, List.length_zipIdx, la]
  refine ⟨a, xs, rfl, ia, fun D hD => ⟨fun i m H' => m = xs.length - i ∧ i ≤ xs.length ∧ Cd K H2 (enumD d) f g D i H', ⟨_, rfl, Nat.zero_le _, cd_start hD⟩, ?_⟩⟩
  rintro i m H' ⟨rfl, hi, p⟩
  have qx := ka H' p.2.1
  by_cases hlt : i < xs.length
  · have hx : xs[i]? = some xs[i] := List.getElem?_eq_getElem hlt
    refine .inr ⟨⟨xs, _, qx, hx⟩, fun G => Cd K H2 (enumD d) f g D (i + 1) G, fun G hG => ⟨_, (by omega : xs.length - (i + 1) < xs.length - i), rfl, (by omega), hG⟩, fun y G hy2 => ?_⟩
    obtain ⟨T, x', rfl, nT, rfl, f1⟩ := hy2
    have f1 := f1 xs qx
    have l3 : i < (itemsD d).length := by omega
    have d1 : (itemsD d)[i]? = some (itemsD d)[i] := List.getElem?_eq_getElem l3
    have xT : Ex H' (upd H' T (.tup [.int (i : Nat), x'])) := Ex.new nT
    have hdi : (enumD d)[i]? = some (.tuple [.int (i : Int), (itemsD d)[i]]) := by
      unfold enumD
      rw [List.getElem?_map, List.getElem?_zipIdx, d1]
      simp
    have hx2 : Dp K (upd H' T (.tup [.int (i : Nat), x'])) (.ref T) (.tuple [.int (i : Int), (itemsD d)[i]]) := .tup (Evl.st_of upd_same) (.cons (.int _) (.cons (dp_ex (p.2.1.trans xT) (dpAll_get da f1 d1)) .nil))
    exact ht _ (List.mem_of_getElem? hdi) _ _ (x.trans (e2.trans (p.2.1.trans xT))) hx2 _ fun σ2 w h1 h2 => ⟨w, cd_turn him (cd_ex p xT) hdi (by omega) h1 h2⟩
  · have e : i = (enumD d).length := by omega
    rw [e] at p
    have z := cd_end p
    exact .inl ⟨⟨xs, qx, by omega⟩, q _ H' (e2.trans z.1) z.2⟩
end AsZipG

set_option maxHeartbeats 4000000
set_option autoImplicit false
/-! lists of lists made by comprehensions: data that do not hang on growing lists. -/
namespace AsLcN
open PySem PySem.Spec PyProof.Rows L2 AsSort AsKit AsZipG
open Evl (Ex Ev EvT EvA)
/-- the heap without the addresses of S -/
def hid (S : List Addr) (H : Hp) : Hp := fun b => if b ∈ S then none else H b
theorem hid_nil (H : Hp) : hid [] H = H := funext fun b => if_neg List.not_mem_nil
theorem hid_out {S : List Addr} {H : Hp} {b : Addr} (h : b ∉ S) : hid S H b = H b := if_neg h
theorem hid_in {S : List Addr} {H : Hp} {b : Addr} (h : b ∈ S) : hid S H b = none := if_pos h
theorem hid_ex {S : List Addr} {H H' : Hp} (e : Ex H H') : Ex (hid S H) (hid S H') := fun b o hb => by
  by_cases hs : b ∈ S
  · rw [hid_in hs] at hb; cases hb
  · rw [hid_out hs] at hb ⊢
    exact e b o hb
theorem hid_le (S : List Addr) (H : Hp) : Ex (hid S H) H := fun b o hb => by
  by_cases hs : b ∈ S
  · rw [hid_in hs] at hb; cases hb
  · rwa [hid_out hs] at hb
theorem hid_less {S T : List Addr} {H : Hp} (h : ∀ b ∈ S, b ∈ T) : Ex (hid T H) (hid S H) := fun b o hb => by
  by_cases hs : b ∈ T
  · rw [hid_in hs] at hb; cases hb
  · rw [hid_out hs] at hb
    rw [hid_out fun z => hs (h b z)]
    exact hb
theorem hid_upd {S : List Addr} {H : Hp} {D : Addr} {o : HO} (h : D ∈ S) : hid S (upd H D o) = hid S H := funext fun b => by
  by_cases hs : b ∈ S
  · rw [hid_in hs, hid_in hs]
  · rw [hid_out hs, hid_out hs, upd_ne (fun e => hs (by rw [e]; exact h))]
/-- what was known ahead of S -/
theorem hid_old {S : List Addr} {H H' : Hp} (h : ∀ s ∈ S, H s = none) (e : Ex H H') : Ex H (hid S H') := fun b o hb => by
  rw [hid_out fun z => by rw [h b z] at hb; cases hb]
  exact e b o hb
/-- the addresses of S are those of lists -/
def Lsts (S : List Addr) (H : Hp) : Prop := ∀ s ∈ S, ∃ acc, H s = some (.lst acc)
theorem Lsts.ex {S : List Addr} {H H' : Hp} (h : Lsts S H) (e : Ex H H') : Lsts S H' := fun s hs => let ⟨a, q⟩ := h s hs; ⟨a, e _ _ q⟩
theorem Lsts.set {S : List Addr} {H : Hp} {D : Addr} {acc : List V} (h : Lsts S H) : Lsts (D :: S) (upd H D (.lst acc)) := fun s hs => by
  by_cases e : s = D
  · exact ⟨acc, by rw [e, upd_same]⟩
  · obtain ⟨a, q⟩ := h s ((List.mem_cons.mp hs).resolve_left e)
    exact ⟨a, (upd_ne e).trans q⟩
theorem tu_hid {K : PySem.W.Frag} {S : List Addr} {H : Hp} (h : Lsts S H) : Tu K H (hid S H) := tu_rd fun a xs r => by
  have n : ∀ o, H a = some o → (∀ zs, o ≠ .lst zs) → a ∉ S := fun o e n z => by
    obtain ⟨acc, q⟩ := h a z
    rw [q] at e
    exact n acc (Option.some.inj e).symm
  rcases r with r | ⟨o, r⟩
  · exact .inl ((hid_out (n _ r fun _ z => nomatch z)).trans r)
  · exact .inr ⟨o, (hid_out (n _ r fun _ z => nomatch z)).trans r⟩
section
variable {K : PySem.W.Frag} {S : List Addr} {σ : L2.St} {H H' : Hp} {te tl : TE} {ta : TA} {t : TT} {gt : TG} {vs : List Nat} {d e : PyData} {ds : List PyData}
/-- the reading te gives data d that hang on no list of S -/
def EvN (K : PySem.W.Frag) (S : List Addr) (te : TE) (σ : L2.St) (H : Hp) (d : PyData) : Prop := ∀ H1, Ex H H1 → Lsts S H1 → ∀ Q : VK, (∀ v H2, Ex H1 H2 → Dp K (hid S H2) v d → Q v H2) → te σ H1 Q
theorem EvN.mono (x : Ex H H') (h : EvN K S te σ H d) : EvN K S te σ H' d := fun H1 a => h H1 (x.trans a)
theorem n_nil (h : EvN K [] te σ H d) : EvD K te σ H d := fun H1 a Q q => h H1 a (fun _ z => absurd z List.not_mem_nil) Q fun v H2 x hd => q v H2 x (by rw [hid_nil] at hd; exact hd)
theorem n_top (h : EvD K te σ H d) : EvN K [] te σ H d := fun H1 a _ Q q => h H1 a Q fun v H2 x hd => q v H2 x (by rw [hid_nil]; exact hd)
theorem n_imm (h : EvD K te σ H d) (hi : imm d = true) : EvN K S te σ H d := fun H1 a l Q q => h H1 a Q fun v H2 x hd => q v H2 x (dp_tu (tu_hid (l.ex x)) hi hd)
theorem n_d (h : EvN K S te σ H d) (l : Lsts S H) : EvD K te σ H d := fun H1 a Q q => h H1 a (l.ex a) Q fun v H2 x hd => q v H2 x (dp_ex (hid_le S H2) hd)
theorem n_eqTo (h : EvN K S te σ H d) (e1 : d = e) : EvN K S te σ H e := e1 ▸ h
/-- a slot that was known ahead of S -/
theorem n_var {i : Nat} {H0 : Hp} (h : At K σ H0 i d) (h0 : ∀ s ∈ S, H0 s = none) (x : Ex H0 H) : EvN K S (tVar i) σ H d := fun H1 a _ Q q => let ⟨v, h1, h2⟩ := h; ⟨v, h1, q v H1 (Ex.refl H1) (dp_ex (hid_old h0 (x.trans a)) h2)⟩
theorem n_varN {i : Nat} {v : V} (h : σ[i]? = some (some v)) (hd : Dp K (hid S H) v d) : EvN K S (tVar i) σ H d := fun H1 a _ Q q => ⟨v, h, q v H1 (Ex.refl H1) (dp_ex (hid_ex a) hd)⟩
/-- a list of the program's own -/
def NewL (K : PySem.W.Frag) (H : Hp) (p : Addr) (ds : List PyData) : Prop := ∃ acc, H p = some (.lst acc) ∧ DpAll K H acc ds
theorem NewL.dp {p : Addr} (h : NewL K H p ds) : Dp K H (.ref p) (.list ds) := let ⟨_, a, b⟩ := h; .lst (Evl.sq_of a) b
theorem NewL.ex {p : Addr} (h : NewL K H p ds) (e : Ex H H') : NewL K H' p ds := let ⟨acc, a, b⟩ := h; ⟨acc, e _ _ a, dpAll_ex e b⟩
/-- a new list of data without lists within -/
def EvF (K : PySem.W.Frag) (te : TE) (σ : L2.St) (H : Hp) (ds : List PyData) : Prop := ∀ H1, Ex H H1 → ∀ Q : VK, (∀ p H2, H1 p = none → Ex H1 H2 → NewL K H2 p ds → Q (.ref p) H2) → te σ H1 Q
theorem fresh_hid {p : Addr} {H1 H2 : Hp} (l : Lsts S H1) (x : Ex H1 H2) (np : H1 p = none) (hi : immAll ds = true) (hd : Dp K H2 (.ref p) (.list ds)) : Dp K (hid S H2) (.ref p) (.list ds) := by
  have nS : p ∉ S := fun z => by obtain ⟨a, q⟩ := l p z; rw [q] at np; cases np
  cases hd with
  | lst hs hx =>
    refine .lst ?_ (dpAll_tu (tu_hid (l.ex x)) hi hx)
    rcases hs with (hs | ⟨o, hs⟩) | hs
    · exact .inl (.inl ((hid_out nS).trans hs))
    · exact .inl (.inr ⟨o, (hid_out nS).trans hs⟩)
    · exact .inr hs
theorem n_fresh (h : EvF K te σ H ds) (hi : immAll ds = true) : EvN K S te σ H (.list ds) := fun H1 a l Q q => h H1 a Q fun p H2 np x hd => q _ H2 x (fresh_hid l x np hi hd.dp)
/-- a tuple, a list of such data -/
def EvNs (K : PySem.W.Frag) (S : List Addr) (ta : TA) (σ : L2.St) (H : Hp) (ds : List PyData) : Prop := ∀ H1, Ex H H1 → Lsts S H1 → ∀ Q : List V → Hp → Prop, (∀ vs H2, Ex H1 H2 → DpAll K (hid S H2) vs ds → Q vs H2) → ta σ H1 Q
theorem ns_nil : EvNs K S tNil σ H [] := fun H1 _ _ _ q => q [] H1 (Ex.refl H1) .nil
theorem ns_cons {tr : TA} (h : EvN K S te σ H d) (hr : EvNs K S tr σ H ds) : EvNs K S (tCons te tr) σ H (d :: ds) := fun H1 a l Q q =>
  h H1 a l _ fun v H2 x hd => hr H2 (a.trans x) (l.ex x) _ fun vs H3 y hs => q _ H3 (x.trans y) (.cons (dp_ex (hid_ex y) hd) hs)
theorem new_hid {H1 H2 : Hp} {p : Addr} (l : Lsts S H1) (np : H1 p = none) : p ∉ S := fun z => by obtain ⟨a, q⟩ := l p z; rw [q] at np; cases np
theorem n_tup (h : EvNs K S ta σ H ds) (hl : ds.length ≤ 100000) : EvN K S (tTup ta) σ H (.tuple ds) := fun H1 a l Q q =>
  h H1 a l _ fun vs H2 x hd => ⟨Evl.sz_of (by rw [dpAll_len hd]; exact hl), fun p hp => q _ _ (x.trans (Ex.new hp)) (.tup (Evl.st_of ((hid_out (new_hid (H2 := H2) (l.ex x) hp)).trans upd_same)) (dpAll_ex (hid_ex (Ex.new hp)) hd))⟩
theorem n_lst (h : EvNs K S ta σ H ds) (hl : ds.length ≤ 100000) : EvN K S (tLst ta) σ H (.list ds) := fun H1 a l Q q =>
  h H1 a l _ fun vs H2 x hd => ⟨Evl.sz_of (by rw [dpAll_len hd]; exact hl), fun p hp => q _ _ (x.trans (Ex.new hp)) (.lst (Evl.sq_of ((hid_out (new_hid (H2 := H2) (l.ex x) hp)).trans upd_same)) (dpAll_ex (hid_ex (Ex.new hp)) hd))⟩
/-! ### comprehensions -/
/-- behind i turns: D the new list -/
def CdN (K : PySem.W.Frag) (S : List Addr) (H : Hp) (ds : List PyData) (f : PyData → Bool) (g : PyData → PyData) (D : Addr) (i : Nat) (H' : Hp) : Prop := H D = none ∧ Ex H H' ∧ Lsts S H' ∧ ∃ acc, H' D = some (.lst acc) ∧ DpAll K (hid (D :: S) H') acc (((ds.take i).filter f).map g)
theorem cdn_start {f : PyData → Bool} {g : PyData → PyData} {D : Addr} (h : H D = none) (l : Lsts S H) : CdN K S H ds f g D 0 (upd H D (.lst [])) := ⟨h, Ex.new h, l.ex (Ex.new h), [], upd_same, by rw [List.take_zero]; exact .nil⟩
theorem CdN.lsts {f : PyData → Bool} {g : PyData → PyData} {D : Addr} {i : Nat} (p : CdN K S H ds f g D i H') : Lsts (D :: S) H' := fun s hs => by
  obtain ⟨_, _, l, acc, h, _⟩ := p
  rcases List.mem_cons.mp hs with rfl | hs
  · exact ⟨acc, h⟩
  · exact l s hs
theorem cdn_turn {f : PyData → Bool} {g : PyData → PyData} {D : Addr} {i : Nat} {σ2 : L2.St} (p : CdN K S H ds f g D i H') (hi : ds[i]? = some d) (hz : ds.length ≤ 50000)
    (ht : EvT t σ2 H' (f d)) (he : f d = true → EvN K (D :: S) te σ2 H' (g d)) :
    t σ2 H' fun b H3 => if b = true then te σ2 H3 fun y H4 => ∃ acc, H4 D = some (.lst acc) ∧ acc.length < sizeLine ∧ CdN K S H ds f g D (i + 1) (upd H4 D (.lst (acc ++ [y]))) else CdN K S H ds f g D (i + 1) H3 := by
  have ls := p.lsts
  obtain ⟨p1, p2, p3, acc, p4, p5⟩ := p
  have ek : ds.take (i + 1) = ds.take i ++ [d] := by rw [List.take_add_one, hi]; simp
  refine ht H' (Ex.refl _) _ fun H3 e3 => ?_
  cases hf : f d with
  | true =>
    show te σ2 H3 fun y H4 => ∃ acc, H4 D = some (.lst acc) ∧ acc.length < sizeLine ∧ CdN K S H ds f g D (i + 1) (upd H4 D (.lst (acc ++ [y])))
    refine he hf H3 e3 (ls.ex e3) _ fun y H4 e4 hy => ?_
    have q4 : H4 D = some (.lst acc) := e4 D _ (e3 D _ p4)
    have hl : acc.length ≤ 50000 := by
      rw [dpAll_len p5, List.length_map]
      have h1 := List.length_filter_le f (ds.take i)
      have h3 := List.length_take_le' i ds
      omega
    have l4 := p3.ex (e3.trans e4)
    refine ⟨acc, q4, Evl.sz_lt (by omega), p1, Ex.mut ((p2.trans e3).trans e4) p1, (fun s hs => (Lsts.set (D := D) (acc := acc ++ [y]) l4) s (List.mem_cons_of_mem _ hs)), acc ++ [y], upd_same, ?_⟩
    rw [hid_upd (List.mem_cons_self ..), ek, List.filter_append, List.map_append, List.filter_cons, if_pos hf]
    exact dpAll_snoc hy (dpAll_ex (hid_ex (e3.trans e4)) p5)
  | false =>
    show CdN K S H ds f g D (i + 1) H3
    refine ⟨p1, p2.trans e3, p3.ex e3, acc, e3 D _ p4, ?_⟩
    rw [ek, List.filter_append, List.map_append, List.filter_cons, if_neg (by rw [hf]; decide)]
    show DpAll K _ acc (_ ++ [])
    rw [List.append_nil]
    exact dpAll_ex (hid_ex e3) p5
theorem cdn_end {f : PyData → Bool} {g : PyData → PyData} {D : Addr} {n : Nat} (hl : ds.length = n) (l : Lsts S H) (p : CdN K S H ds f g D n H') : Ex H H' ∧ Dp K (hid S H') (.ref D) (.list ((ds.filter f).map g)) := by
  subst hl
  obtain ⟨p1, p2, p3, acc, p4, p5⟩ := p
  rw [List.take_length] at p5
  exact ⟨p2, .lst (Evl.sq_of ((hid_out (new_hid (H2 := H') l p1)).trans p4)) (dpAll_ex (hid_less fun b hb => List.mem_cons_of_mem _ hb) p5)⟩
/-- what a turn asks -/
def TurnN (K : PySem.W.Frag) (S : List Addr) (gt : TG) (t : TT) (te : TE) (vs : List Nat) (σ : L2.St) (H : Hp) (d : PyData) (b : Bool) (o : PyData) : Prop := ∀ D, H D = none → ∀ x H1, Ex H H1 → Lsts (D :: S) H1 → Dp K (hid (D :: S) H1) x d → ∀ k : L2.St → Hp → Prop,
  (∀ σ2, wipe σ2 vs = wipe σ vs → EvT t σ2 H1 b → (b = true → EvN K (D :: S) te σ2 H1 o) → k σ2 H1) → gt x (wipe σ vs) H1 k
theorem none_back {D : Addr} (x : Ex H H') (h : H' D = none) : H D = none := Classical.byContradiction fun z => by
  cases q : H D with
  | none => exact z q
  | some u => rw [x _ _ q] at h; cases h
theorem n_lcL (f : PyData → Bool) (g : PyData → PyData) (h : EvN K S tl σ H (.list ds)) (hz : ds.length ≤ 50000) (ht : ∀ d ∈ ds, TurnN K S gt t te vs σ H d (f d) (g d)) :
    EvN K S (tLc (iList K tl) gt t te vs) σ H (.list ((ds.filter f).map g)) := fun H1 a l Q q => h H1 a l _ fun v H2 x hd => by
  cases hd with
  | lst hs hx =>
    have hs2 := Evl.ex_l (hid_le S H2) hs
    refine ⟨_, rfl, ⟨_, hs2⟩, fun D hD => lc_list (CdN K S H2 ds f g D) (cdn_start hD (l.ex x)) (fun i H' _ p => Evl.ex_l p.2.1 hs2) (fun i y H' hi p => ?_) fun H' p => ?_⟩
    · have hi2 : i < ds.length := by rw [← dpAll_len hx]; exact (List.getElem?_eq_some_iff.mp hi).1
      have hd : ds[i]? = some ds[i] := List.getElem?_eq_getElem hi2
      have hy : Dp K (hid S H2) y ds[i] := dpAll_get hx hi hd
      have hy2 : Dp K (hid (D :: S) H') y ds[i] := dp_ex (fun b o hb => by
        by_cases hs : b ∈ S
        · rw [hid_in hs] at hb; cases hb
        · rw [hid_out hs] at hb
          rw [hid_out (fun z => (List.mem_cons.mp z).elim (fun e => by rw [e, hD] at hb; cases hb) hs)]
          exact p.2.1 b o hb) hy
      exact ht ds[i] (List.getElem_mem hi2) D (none_back (a.trans x) hD) y H' (a.trans (x.trans p.2.1)) p.lsts hy2 _ fun σ2 w h1 h2 => ⟨w, cdn_turn p hd hz h1 h2⟩
    · have z := cdn_end (dpAll_len hx).symm (l.ex x) p
      exact q _ H' (x.trans z.1) z.2
theorem n_lcT (f : PyData → Bool) (g : PyData → PyData) (h : EvN K S tl σ H (.tuple ds)) (hz : ds.length ≤ 50000) (ht : ∀ d ∈ ds, TurnN K S gt t te vs σ H d (f d) (g d)) :
    EvN K S (tLc (iTup K tl) gt t te vs) σ H (.list ((ds.filter f).map g)) := fun H1 a l Q q => h H1 a l _ fun v H2 x hd => by
  cases hd with
  | tup hs hx =>
    have hs2 := Evl.ex_t (hid_le S H2) hs
    refine ⟨_, rfl, ⟨_, hs2⟩, fun D hD => lc_tup (CdN K S H2 ds f g D) (cdn_start hD (l.ex x)) (fun i H' _ p => Evl.ex_t p.2.1 hs2) (fun i y H' hi p => ?_) fun H' p => ?_⟩
    · have hi2 : i < ds.length := by rw [← dpAll_len hx]; exact (List.getElem?_eq_some_iff.mp hi).1
      have hd : ds[i]? = some ds[i] := List.getElem?_eq_getElem hi2
      have hy : Dp K (hid S H2) y ds[i] := dpAll_get hx hi hd
      have hy2 : Dp K (hid (D :: S) H') y ds[i] := dp_ex (fun b o hb => by
        by_cases hs : b ∈ S
        · rw [hid_in hs] at hb; cases hb
        · rw [hid_out hs] at hb
          rw [hid_out (fun z => (List.mem_cons.mp z).elim (fun e => by rw [e, hD] at hb; cases hb) hs)]
          exact p.2.1 b o hb) hy
      exact ht ds[i] (List.getElem_mem hi2) D (none_back (a.trans x) hD) y H' (a.trans (x.trans p.2.1)) p.lsts hy2 _ fun σ2 w h1 h2 => ⟨w, cdn_turn p hd hz h1 h2⟩
    · have z := cdn_end (dpAll_len hx).symm (l.ex x) p
      exact q _ H' (x.trans z.1) z.2
theorem n_lcS {z : Str} (f : PyData → Bool) (g : PyData → PyData) (h : EvD K tl σ H (.str z)) (hz : z.length ≤ 50000) (ht : ∀ d ∈ sgns z, TurnN K S gt t te vs σ H d (f d) (g d)) :
    EvN K S (tLc (iStr tl) gt t te vs) σ H (.list (((sgns z).filter f).map g)) := fun H1 a l Q q => h H1 a _ fun v H2 x hd => by
  cases hd
  have hl : (sgns z).length = z.cps.toList.length := List.length_map ..
  have hl2 : z.cps.toList.length = z.length := Array.length_toList
  refine ⟨z, rfl, fun D hD => lc_str (CdN K S H2 (sgns z) f g D) (cdn_start hD (l.ex x)) (fun i c H' hi p => ?_) fun H' p => ?_⟩
  · have hd : (sgns z)[i]? = some (.str ⟨#[c]⟩) := by unfold sgns; rw [List.getElem?_map, hi]; rfl
    exact ht _ (List.mem_of_getElem? hd) D (none_back (a.trans x) hD) _ H' (a.trans (x.trans p.2.1)) p.lsts (.str _) _ fun σ2 w h1 h2 => ⟨w, cdn_turn p hd (by omega) h1 h2⟩
  · have z := cdn_end hl (l.ex x) p
    exact q _ H' (x.trans z.1) z.2
theorem n_lcR1 {hi : Int} (f : PyData → Bool) (g : PyData → PyData) (h : EvDs K ta σ H [.int hi]) (hn : -1000 ≤ hi ∧ hi ≤ 40000) (ht : ∀ d ∈ rngD 0 hi.toNat, TurnN K S gt t te vs σ H d (f d) (g d)) :
    EvN K S (tLc (iRng1 ta) gt t te vs) σ H (.list (((rngD 0 hi.toNat).filter f).map g)) := fun H1 a l Q q => ds_ev h H1 a _ fun H2 x => by
  have hl : (rngD 0 hi.toNat).length = hi.toNat := by unfold rngD; rw [List.length_map, List.length_range]
  refine ⟨hi, rfl, by omega, by omega, fun D hD => lc_range (lo := 0) (n := hi.toNat) (CdN K S H2 (rngD 0 hi.toNat) f g D) (cdn_start hD (l.ex x)) (fun i H' hi p => ?_) fun H' p => ?_⟩
  · have hd : (rngD 0 (‹Int›).toNat)[i]? = some (.int (0 + i)) := by unfold rngD; rw [List.getElem?_map, List.getElem?_range hi]; rfl
    exact ht _ (List.mem_of_getElem? hd) D (none_back (a.trans x) hD) _ H' (a.trans (x.trans p.2.1)) p.lsts (.int _) _ fun σ2 w h1 h2 => ⟨w, cdn_turn p hd (by omega) h1 h2⟩
  · have z := cdn_end hl (l.ex x) p
    exact q _ H' (x.trans z.1) z.2
end
end AsLcN

set_option maxHeartbeats 4000000
set_option autoImplicit false
/-! .. over zip and enumerate; promises of new lists. -/
namespace AsLcN
open PySem PySem.Spec PyProof.Rows L2 AsSort AsKit AsZipG
open Evl (Ex Ev EvT EvA)
/-- a promise of a new list of data without lists -/
def spF (K : PySem.W.Frag) (pre : List PyData → Prop) (g : List PyData → List PyData) : Sp := fun vs H Q _ => ∃ ds, DpAll K H vs ds ∧ pre ds ∧ ∀ p H', H p = none → Ex H H' → NewL K H' p (g ds) → Q (.ref p) H'
section
variable {K : PySem.W.Frag} {S : List Addr} {σ : L2.St} {H H' : Hp} {te tl : TE} {ta : TA} {t : TT} {gt : TG} {vs : List Nat} {d e : PyData} {ds : List PyData}
theorem f_d (h : EvF K te σ H ds) : EvD K te σ H (.list ds) := fun H1 a Q q => h H1 a Q fun p H2 _ x hd => q _ H2 x hd.dp
theorem EvF.mono (x : Ex H H') (h : EvF K te σ H ds) : EvF K te σ H' ds := fun H1 a => h H1 (x.trans a)
theorem f_eqTo {es : List PyData} (h : EvF K te σ H ds) (e1 : ds = es) : EvF K te σ H es := e1 ▸ h
theorem f_call {pre : List PyData → Prop} {g : List PyData → List PyData} {E : XK} (h : EvDs K ta σ H ds) (hp : pre ds) : EvF K (tCall (spF K pre g) [] E ta) σ H (g ds) := fun H1 a Q q =>
  h H1 a _ fun vs H2 x hd => by
    show spF K pre g (vs ++ []) H2 Q E
    rw [List.append_nil]
    exact ⟨ds, hd, hp, fun p H3 np y hv => q p H3 (none_back x np) (x.trans y) hv⟩
theorem len_spF {pre : List PyData → Prop} {g : List PyData → List PyData} {n : Nat} (h : ∀ ds, pre ds → ds.length = n) : ∀ vs H Q E, spF K pre g vs H Q E → vs.length = n := fun vs H Q E ⟨ds, a, b, _⟩ => (dpAll_len a).trans (h ds b)
theorem hid_cons {D : Addr} (h : H D = none) (x : Ex H H') : Ex (hid S H) (hid (D :: S) H') := fun b o hb => by
  by_cases hs : b ∈ S
  · rw [hid_in hs] at hb; cases hb
  · rw [hid_out hs] at hb
    rw [hid_out (fun z => (List.mem_cons.mp z).elim (fun e => by rw [e, h] at hb; cases hb) hs)]
    exact x b o hb
theorem n_lcG (f : PyData → Bool) (g : PyData → PyData) (h : EvNs K S ta σ H [d, e]) (s1 : isSrc d = true) (s2 : isSrc e = true) (hz : (itemsD d).length ≤ 50000) (ht : ∀ x ∈ pairsG d e, TurnN K S gt t te vs σ H x (f x) (g x)) :
    EvN K S (tLc (iZipG K ta) gt t te vs) σ H (.list (((pairsG d e).filter f).map g)) := fun H1 x l Q q => h H1 x l _ fun us H2 e2 hu => by
  obtain ⟨u1, u2, rfl, h1, h2⟩ := dp2 hu
  obtain ⟨a, xs, rfl, ia, da, ka⟩ := src_of h1 s1
  obtain ⟨b, ys, rfl, ib, db, kb⟩ := src_of h2 s2
  have la : xs.length = (itemsD d).length := dpAll_len da
  have lb : ys.length = (itemsD e).length := dpAll_len db
  have lz : (pairsG d e).length = min xs.length ys.length := by unfold pairsG; rw [List.length_map, List.length_zip, la, lb]
  refine ⟨a, b, xs, ys, rfl, ka _ (hid_le S H2), kb _ (hid_le S H2), fun D hD => ⟨fun i m H' => m = min xs.length ys.length - i ∧ i ≤ min xs.length ys.length ∧ CdN K S H2 (pairsG d e) f g D i H', ⟨_, rfl, Nat.zero_le _, cdn_start hD (l.ex e2)⟩, ?_⟩⟩
  rintro i m H' ⟨rfl, hi, p⟩
  have qx := ka H' ((hid_le S H2).trans p.2.1)
  have qy := kb H' ((hid_le S H2).trans p.2.1)
  by_cases hlt : i < min xs.length ys.length
  · have l1 : i < xs.length := by omega
    have l2 : i < ys.length := by omega
    refine .inr ⟨⟨xs, ys, _, _, qx, qy, List.getElem?_eq_getElem l1, List.getElem?_eq_getElem l2⟩, fun G => CdN K S H2 (pairsG d e) f g D (i + 1) G, fun G hG => ⟨_, (by omega : min xs.length ys.length - (i + 1) < min xs.length ys.length - i), rfl, (by omega), hG⟩, fun y G hy2 => ?_⟩
    obtain ⟨T, x', y', rfl, nT, rfl, f1, f2⟩ := hy2
    have f1 := f1 xs qx
    have f2 := f2 ys qy
    have d1 : (itemsD d)[i]? = some ((itemsD d)[i]'(by omega)) := List.getElem?_eq_getElem (by omega)
    have d2 : (itemsD e)[i]? = some ((itemsD e)[i]'(by omega)) := List.getElem?_eq_getElem (by omega)
    have xT : Ex H' (upd H' T (.tup [x', y'])) := Ex.new nT
    have hdi : (pairsG d e)[i]? = some (.tuple [(itemsD d)[i]'(by omega), (itemsD e)[i]'(by omega)]) := by
      unfold pairsG
      rw [List.getElem?_map, List.getElem?_zip_eq_some (z := ((itemsD d)[i]'(by omega), (itemsD e)[i]'(by omega))).mpr ⟨d1, d2⟩]
      rfl
    have ls := p.lsts
    have nTS : T ∉ D :: S := new_hid (H2 := H') ls nT
    have pT : CdN K S H2 (pairsG d e) f g D i (upd H' T (.tup [x', y'])) := by
      obtain ⟨p1, p2, p3, acc, p4, p5⟩ := p
      exact ⟨p1, p2.trans xT, p3.ex xT, acc, xT _ _ p4, dpAll_ex (hid_ex xT) p5⟩
    have up : Ex (hid S H2) (hid (D :: S) (upd H' T (.tup [x', y']))) := hid_cons hD (p.2.1.trans xT)
    have hx2 : Dp K (hid (D :: S) (upd H' T (.tup [x', y']))) (.ref T) (.tuple [(itemsD d)[i]'(by omega), (itemsD e)[i]'(by omega)]) := .tup (Evl.st_of ((hid_out nTS).trans upd_same)) (.cons (dp_ex up (dpAll_get da f1 d1)) (.cons (dp_ex up (dpAll_get db f2 d2)) .nil))
    exact ht _ (List.mem_of_getElem? hdi) D (none_back (x.trans e2) hD) _ _ (x.trans (e2.trans (p.2.1.trans xT))) pT.lsts hx2 _ fun σ2 w h1 h2 => ⟨w, cdn_turn pT hdi (by omega) h1 h2⟩
  · have e0 : i = min xs.length ys.length := by omega
    rw [e0] at p
    have z := cdn_end lz (l.ex e2) p
    exact .inl ⟨⟨xs, ys, qx, qy, by omega, by omega, by omega⟩, q _ H' (e2.trans z.1) z.2⟩
theorem n_lcE (f : PyData → Bool) (g : PyData → PyData) (h : EvNs K S ta σ H [d]) (s1 : isSrc d = true) (hz : (itemsD d).length ≤ 50000) (ht : ∀ x ∈ enumD d, TurnN K S gt t te vs σ H x (f x) (g x)) :
    EvN K S (tLc (iEnumG K ta) gt t te vs) σ H (.list (((enumD d).filter f).map g)) := fun H1 x l Q q => h H1 x l _ fun us H2 e2 hu => by
  obtain ⟨u1, rfl, h1⟩ := dp1 hu
  obtain ⟨a, xs, rfl, ia, da, ka⟩ := src_of h1 s1
  have la : xs.length = (itemsD d).length := dpAll_len da
  have lz : (enumD d).length = xs.length := by unfold enumD; rw [List.length_map, List.length_zipIdx, la]
  refine ⟨a, xs, rfl, ka _ (hid_le S H2), fun D hD => ⟨fun i m H' => m = xs.length - i ∧ i ≤ xs.length ∧ CdN K S H2 (enumD d) f g D i H', ⟨_, rfl, Nat.zero_le _, cdn_start hD (l.ex e2)⟩, ?_⟩⟩
  rintro i m H' ⟨rfl, hi, p⟩
  have qx := ka H' ((hid_le S H2).trans p.2.1)
  by_cases hlt : i < xs.length
  · refine .inr ⟨⟨xs, _, qx, List.getElem?_eq_getElem hlt⟩, fun G => CdN K S H2 (enumD d) f g D (i + 1) G, fun G hG => ⟨_, (by omega : xs.length - (i + 1) < xs.length - i), rfl, (by omega), hG⟩, fun y G hy2 => ?_⟩
    obtain ⟨T, x', rfl, nT, rfl, f1⟩ := hy2
    have f1 := f1 xs qx
    have d1 : (itemsD d)[i]? = some ((itemsD d)[i]'(by omega)) := List.getElem?_eq_getElem (by omega)
    have xT : Ex H' (upd H' T (.tup [.int (i : Int), x'])) := Ex.new nT
    have hdi : (enumD d)[i]? = some (.tuple [.int (i : Int), (itemsD d)[i]'(by omega)]) := by
      unfold enumD
      rw [List.getElem?_map, List.getElem?_zipIdx, d1]
      simp
    have nTS : T ∉ D :: S := new_hid (H2 := H') p.lsts nT
    have pT : CdN K S H2 (enumD d) f g D i (upd H' T (.tup [.int (i : Int), x'])) := by
      obtain ⟨p1, p2, p3, acc, p4, p5⟩ := p
      exact ⟨p1, p2.trans xT, p3.ex xT, acc, xT _ _ p4, dpAll_ex (hid_ex xT) p5⟩
    have up : Ex (hid S H2) (hid (D :: S) (upd H' T (.tup [.int (i : Int), x']))) := hid_cons hD (p.2.1.trans xT)
    have hx2 : Dp K (hid (D :: S) (upd H' T (.tup [.int (i : Int), x']))) (.ref T) (.tuple [.int (i : Int), (itemsD d)[i]'(by omega)]) := .tup (Evl.st_of ((hid_out nTS).trans upd_same)) (.cons (.int _) (.cons (dp_ex up (dpAll_get da f1 d1)) .nil))
    exact ht _ (List.mem_of_getElem? hdi) D (none_back (x.trans e2) hD) _ _ (x.trans (e2.trans (p.2.1.trans xT))) pT.lsts hx2 _ fun σ2 w h1 h2 => ⟨w, cdn_turn pT hdi (by omega) h1 h2⟩
  · have e0 : i = xs.length := by omega
    rw [e0] at p
    have z := cdn_end lz (l.ex e2) p
    exact .inl ⟨⟨xs, qx, by omega⟩, q _ H' (e2.trans z.1) z.2⟩
end
end AsLcN

set_option maxHeartbeats 4000000
set_option autoImplicit false
/-! comprehensions that make new lists of data without lists. -/
namespace AsLcN
open PySem PySem.Spec PyProof.Rows L2 AsSort AsKit AsZipG
open Evl (Ex Ev EvT EvA)
section
variable {K : PySem.W.Frag} {σ : L2.St} {H H' : Hp} {te tl : TE} {t : TT} {gt : TG} {vs : List Nat} {d e : PyData} {ds : List PyData}
theorem cd_new {f : PyData → Bool} {g : PyData → PyData} {D : Addr} (p : Cd K H ds f g D ds.length H') : Ex H H' ∧ NewL K H' D ((ds.filter f).map g) := by
  obtain ⟨p1, p2, acc, p3, p4⟩ := p
  rw [List.take_length] at p4
  exact ⟨p2, acc, p3, p4⟩
theorem cd_new2 {f : PyData → Bool} {g : PyData → PyData} {D : Addr} {n : Nat} (hl : ds.length = n) (p : Cd K H ds f g D n H') : Ex H H' ∧ NewL K H' D ((ds.filter f).map g) := by
  subst hl
  exact cd_new p
theorem f_lcT (f : PyData → Bool) (g : PyData → PyData) (h : EvD K tl σ H (.tuple ds)) (hz : ds.length ≤ 50000) (him : ∀ d ∈ ds, f d = true → imm (g d) = true) (ht : ∀ d ∈ ds, Turn K gt t te vs σ H d (f d) (g d)) :
    EvF K (tLc (iTup K tl) gt t te vs) σ H ((ds.filter f).map g) := fun H1 a Q q => h H1 a _ fun v H2 x hd => by
  cases hd with
  | tup hs hx =>
    refine ⟨_, rfl, ⟨_, hs⟩, fun D hD => lc_tup (Cd K H2 ds f g D) (cd_start hD) (fun i H' _ p => Evl.ex_t p.2.1 hs) (fun i y H' hi p => ?_) fun H' p => ?_⟩
    · have hi2 : i < ds.length := by rw [← dpAll_len hx]; exact (List.getElem?_eq_some_iff.mp hi).1
      have hd : ds[i]? = some ds[i] := List.getElem?_eq_getElem hi2
      exact ht ds[i] (List.getElem_mem hi2) y H' (a.trans (x.trans p.2.1)) (dp_ex p.2.1 (dpAll_get hx hi hd)) _ fun σ2 w h1 h2 => ⟨w, cd_turn him p hd hz h1 h2⟩
    · rw [dpAll_len hx] at p
      have z := cd_new p
      exact q D H' (none_back x hD) (x.trans z.1) z.2
theorem f_lcL (f : PyData → Bool) (g : PyData → PyData) (h : EvD K tl σ H (.list ds)) (hz : ds.length ≤ 50000) (him : ∀ d ∈ ds, f d = true → imm (g d) = true) (ht : ∀ d ∈ ds, Turn K gt t te vs σ H d (f d) (g d)) :
    EvF K (tLc (iList K tl) gt t te vs) σ H ((ds.filter f).map g) := fun H1 a Q q => h H1 a _ fun v H2 x hd => by
  cases hd with
  | lst hs hx =>
    refine ⟨_, rfl, ⟨_, hs⟩, fun D hD => lc_list (Cd K H2 ds f g D) (cd_start hD) (fun i H' _ p => Evl.ex_l p.2.1 hs) (fun i y H' hi p => ?_) fun H' p => ?_⟩
    · have hi2 : i < ds.length := by rw [← dpAll_len hx]; exact (List.getElem?_eq_some_iff.mp hi).1
      have hd : ds[i]? = some ds[i] := List.getElem?_eq_getElem hi2
      exact ht ds[i] (List.getElem_mem hi2) y H' (a.trans (x.trans p.2.1)) (dp_ex p.2.1 (dpAll_get hx hi hd)) _ fun σ2 w h1 h2 => ⟨w, cd_turn him p hd hz h1 h2⟩
    · rw [dpAll_len hx] at p
      have z := cd_new p
      exact q D H' (none_back x hD) (x.trans z.1) z.2
theorem f_lcS {z : Str} (f : PyData → Bool) (g : PyData → PyData) (h : EvD K tl σ H (.str z)) (hz : z.length ≤ 50000) (him : ∀ d ∈ sgns z, f d = true → imm (g d) = true) (ht : ∀ c ∈ z.cps.toList, Turn K gt t te vs σ H (.str ⟨#[c]⟩) (f (.str ⟨#[c]⟩)) (g (.str ⟨#[c]⟩))) :
    EvF K (tLc (iStr tl) gt t te vs) σ H (((sgns z).filter f).map g) := fun H1 a Q q => h H1 a _ fun v H2 x hd => by
  cases hd
  have hl : (sgns z).length = z.cps.toList.length := List.length_map ..
  have hl2 : z.cps.toList.length = z.length := Array.length_toList
  refine ⟨z, rfl, fun D hD => lc_str (Cd K H2 (sgns z) f g D) (cd_start hD) (fun i c H' hi p => ?_) fun H' p => ?_⟩
  · have hd : (sgns z)[i]? = some (.str ⟨#[c]⟩) := by unfold sgns; rw [List.getElem?_map, hi]; rfl
    exact ht c (List.mem_of_getElem? hi) _ H' (a.trans (x.trans p.2.1)) (.str _) _ fun σ2 w h1 h2 => ⟨w, cd_turn him p hd (by omega) h1 h2⟩
  · have z := cd_new2 hl p
    exact q D H' (none_back x hD) (x.trans z.1) z.2
theorem f_lcR1 {ta : TA} {hi : Int} (f : PyData → Bool) (g : PyData → PyData) (h : EvDs K ta σ H [.int hi]) (hn : -1000 ≤ hi ∧ hi ≤ 40000) (him : ∀ d ∈ rngD 0 hi.toNat, f d = true → imm (g d) = true)
    (ht : ∀ i : Nat, i < hi.toNat → Turn K gt t te vs σ H (.int (0 + i)) (f (.int (0 + i))) (g (.int (0 + i)))) :
    EvF K (tLc (iRng1 ta) gt t te vs) σ H (((rngD 0 hi.toNat).filter f).map g) := fun H1 a Q q => ds_ev h H1 a _ fun H2 x => by
  have hl : (rngD 0 hi.toNat).length = hi.toNat := by unfold rngD; rw [List.length_map, List.length_range]
  refine ⟨hi, rfl, by omega, by omega, fun D hD => lc_range (lo := 0) (n := hi.toNat) (Cd K H2 (rngD 0 hi.toNat) f g D) (cd_start hD) (fun i H' hi p => ?_) fun H' p => ?_⟩
  · have hd : (rngD 0 (‹Int›).toNat)[i]? = some (.int (0 + i)) := by unfold rngD; rw [List.getElem?_map, List.getElem?_range hi]; rfl
    exact ht i hi _ H' (a.trans (x.trans p.2.1)) (.int _) _ fun σ2 w h1 h2 => ⟨w, cd_turn him p hd (by omega) h1 h2⟩
  · have z := cd_new2 hl p
    exact q D H' (none_back x hD) (x.trans z.1) z.2
theorem f_lcG {K : PySem.W.Frag} {σ : L2.St} {H : Hp} {ta : TA} {t : TT} {te : TE} {gt : TG} {vs : List Nat} {d e : PyData} (f : PyData → Bool) (g : PyData → PyData) (h : EvDs K ta σ H [d, e]) (s1 : isSrc d = true) (s2 : isSrc e = true) (hz : (itemsD d).length ≤ 50000) (him : ∀ x ∈ pairsG d e, f x = true → imm (g x) = true) (ht : ∀ x ∈ pairsG d e, Turn K gt t te vs σ H x (f x) (g x)) :
    EvF K (tLc (iZipG K ta) gt t te vs) σ H (((pairsG d e).filter f).map g) := fun H1 x Q q => h H1 x _ fun us H2 e2 hu => by
  cases hu with
  | cons h1 hu =>
  cases hu with
  | cons h2 hu =>
  cases hu
  obtain ⟨a, xs, rfl, ia, da, ka⟩ := src_of h1 s1
  obtain ⟨b, ys, rfl, ib, db, kb⟩ := src_of h2 s2
  have la : xs.length = (itemsD d).length := dpAll_len da
  have lb : ys.length = (itemsD e).length := dpAll_len db
  have lz : (pairsG d e).length = min xs.length ys.length := by unfold pairsG; rw [List.length_map, List.length_zip, la, lb]
  refine ⟨a, b, xs, ys, rfl, ia, ib, fun D hD => ⟨fun i m H' => m = min xs.length ys.length - i ∧ i ≤ min xs.length ys.length ∧ Cd K H2 (pairsG d e) f g D i H', ⟨_, rfl, Nat.zero_le _, cd_start hD⟩, ?_⟩⟩
  rintro i m H' ⟨rfl, hi, p⟩
  have qx := ka H' p.2.1
  have qy := kb H' p.2.1
  by_cases hlt : i < min xs.length ys.length
  · have l1 : i < xs.length := by omega
    have l2 : i < ys.length := by omega
    have hx : xs[i]? = some xs[i] := List.getElem?_eq_getElem l1
    have hy : ys[i]? = some ys[i] := List.getElem?_eq_getElem l2
    refine .inr ⟨⟨xs, ys, _, _, qx, qy, hx, hy⟩, fun G => Cd K H2 (pairsG d e) f g D (i + 1) G, fun G hG => ⟨_, (by omega : min xs.length ys.length - (i + 1) < min xs.length ys.length - i), rfl, (by omega), hG⟩, fun y G hy2 => ?_⟩
    obtain ⟨T, x', y', rfl, nT, rfl, f1, f2⟩ := hy2
    have f1 := f1 xs qx
    have f2 := f2 ys qy
    have l3 : i < (itemsD d).length := by omega
    have l4 : i < (itemsD e).length := by omega
    have d1 : (itemsD d)[i]? = some (itemsD d)[i] := List.getElem?_eq_getElem l3
    have d2 : (itemsD e)[i]? = some (itemsD e)[i] := List.getElem?_eq_getElem l4
    have xT : Ex H' (upd H' T (.tup [x', y'])) := Ex.new nT
    have hdi : (pairsG d e)[i]? = some (.tuple [(itemsD d)[i], (itemsD e)[i]]) := by
      unfold pairsG
      rw [List.getElem?_map, List.getElem?_zip_eq_some (z := ((itemsD d)[i], (itemsD e)[i])).mpr ⟨d1, d2⟩]
      rfl
    have hx2 : Dp K (upd H' T (.tup [x', y'])) (.ref T) (.tuple [(itemsD d)[i], (itemsD e)[i]]) := .tup (Evl.st_of upd_same) (.cons (dp_ex (p.2.1.trans xT) (dpAll_get da f1 d1)) (.cons (dp_ex (p.2.1.trans xT) (dpAll_get db f2 d2)) .nil))
    exact ht _ (List.mem_of_getElem? hdi) _ _ (x.trans (e2.trans (p.2.1.trans xT))) hx2 _ fun σ2 w h1 h2 => ⟨w, cd_turn him (cd_ex p xT) hdi (by omega) h1 h2⟩
  · have e : i = (pairsG d e).length := by omega
    rw [e] at p
    have z := cd_new p
    exact .inl ⟨⟨xs, ys, qx, qy, by omega, by omega, by omega⟩, q D H' (none_back e2 hD) (e2.trans z.1) z.2⟩
theorem f_lcE {K : PySem.W.Frag} {σ : L2.St} {H : Hp} {ta : TA} {t : TT} {te : TE} {gt : TG} {vs : List Nat} {d : PyData} (f : PyData → Bool) (g : PyData → PyData) (h : EvDs K ta σ H [d]) (s1 : isSrc d = true) (hz : (itemsD d).length ≤ 50000) (him : ∀ x ∈ enumD d, f x = true → imm (g x) = true) (ht : ∀ x ∈ enumD d, Turn K gt t te vs σ H x (f x) (g x)) :
    EvF K (tLc (iEnumG K ta) gt t te vs) σ H (((enumD d).filter f).map g) := fun H1 x Q q => h H1 x _ fun us H2 e2 hu => by
  cases hu with
  | cons h1 hu =>
  cases hu
  obtain ⟨a, xs, rfl, ia, da, ka⟩ := src_of h1 s1
  have la : xs.length = (itemsD d).length := dpAll_len da
  have lz : (enumD d).length = xs.length := by unfold enumD; rw [List.length_map, List.length_zipIdx, la]
  refine ⟨a, xs, rfl, ia, fun D hD => ⟨fun i m H' => m = xs.length - i ∧ i ≤ xs.length ∧ Cd K H2 (enumD d) f g D i H', ⟨_, rfl, Nat.zero_le _, cd_start hD⟩, ?_⟩⟩
  rintro i m H' ⟨rfl, hi, p⟩
  have qx := ka H' p.2.1
  by_cases hlt : i < xs.length
  · have hx : xs[i]? = some xs[i] := List.getElem?_eq_getElem hlt
    refine .inr ⟨⟨xs, _, qx, hx⟩, fun G => Cd K H2 (enumD d) f g D (i + 1) G, fun G hG => ⟨_, (by omega : xs.length - (i + 1) < xs.length - i), rfl, (by omega), hG⟩, fun y G hy2 => ?_⟩
    obtain ⟨T, x', rfl, nT, rfl, f1⟩ := hy2
    have f1 := f1 xs qx
    have l3 : i < (itemsD d).length := by omega
    have d1 : (itemsD d)[i]? = some (itemsD d)[i] := List.getElem?_eq_getElem l3
    have xT : Ex H' (upd H' T (.tup [.int (i : Nat), x'])) := Ex.new nT
    have hdi : (enumD d)[i]? = some (.tuple [.int (i : Int), (itemsD d)[i]]) := by
      unfold enumD
      rw [List.getElem?_map, List.getElem?_zipIdx, d1]
      simp
    have hx2 : Dp K (upd H' T (.tup [.int (i : Nat), x'])) (.ref T) (.tuple [.int (i : Int), (itemsD d)[i]]) := .tup (Evl.st_of upd_same) (.cons (.int _) (.cons (dp_ex (p.2.1.trans xT) (dpAll_get da f1 d1)) .nil))
    exact ht _ (List.mem_of_getElem? hdi) _ _ (x.trans (e2.trans (p.2.1.trans xT))) hx2 _ fun σ2 w h1 h2 => ⟨w, cd_turn him (cd_ex p xT) hdi (by omega) h1 h2⟩
  · have e : i = (enumD d).length := by omega
    rw [e] at p
    have z := cd_new p
    exact .inl ⟨⟨xs, qx, by omega⟩, q D H' (none_back e2 hD) (e2.trans z.1) z.2⟩
theorem f_lst {ta : TA} (h : EvDs K ta σ H ds) (hl : ds.length ≤ 100000) : EvF K (tLst ta) σ H ds := fun H1 a Q q =>
  h H1 a _ fun vs H2 x hd => ⟨Evl.sz_of (by rw [dpAll_len hd]; exact hl), fun p hp => q p _ (none_back x hp) (x.trans (Ex.new hp)) ⟨vs, upd_same, dpAll_ex (Ex.new hp) hd⟩⟩
theorem dpAll_join {G : Hp} {ws : List V} {es : List PyData} (h2 : DpAll K G ws es) : ∀ {vs : List V} {ds : List PyData}, DpAll K G vs ds → DpAll K G (vs ++ ws) (ds ++ es)
  | [], [], .nil => h2
  | _ :: _, _ :: _, .cons a b => .cons a (dpAll_join h2 b)
theorem f_cat {ta tb : TE} {es : List PyData} (h : EvF K ta σ H ds) (h2 : EvF K tb σ H es) (hl : ds.length + es.length ≤ 100000) : EvF K (tOp rCat ta tb) σ H (ds ++ es) := fun H1 a Q q =>
  h H1 a _ fun p H2 np x hd => h2 H2 (a.trans x) _ fun p2 H3 np2 x2 hd2 => by
    obtain ⟨xs, e1, d1⟩ := hd.ex x2
    obtain ⟨ys, e2, d2⟩ := hd2
    refine ⟨p, p2, xs, ys, rfl, rfl, e1, e2, Evl.sz_of (by rw [dpAll_len d1, dpAll_len d2]; exact hl), fun r nr => ?_⟩
    have xr := Ex.new (o := .lst (xs ++ ys)) nr
    exact q r _ (none_back x (none_back x2 nr)) ((x.trans x2).trans xr) ⟨_, upd_same, dpAll_ex xr (dpAll_join d2 d1)⟩
/-- a slot given a new thing -/
theorem q_asgF {D : Ends} {tz : TS} {i : Nat} (h : EvF K te σ H ds) (k : ∀ p H1, H p = none → Ex H H1 → NewL K H1 p ds → tz D (σ.set i (some (.ref p))) H1) : tSeq (tAsg te (gName i)) tz D σ H := h H (Ex.refl H) _ k
theorem s_asgF {D : Ends} {i : Nat} (h : EvF K te σ H ds) (k : ∀ p H1, H p = none → Ex H H1 → NewL K H1 p ds → D.nx (σ.set i (some (.ref p))) H1) : tAsg te (gName i) D σ H := h H (Ex.refl H) _ k
theorem s_retF {D : Ends} (h : EvF K te σ H ds) (k : ∀ p H1, H p = none → Ex H H1 → NewL K H1 p ds → D.rt (.ref p) H1) : tRet te D σ H := h H (Ex.refl H) _ k
end
end AsLcN

set_option maxHeartbeats 4000000
set_option autoImplicit false
/-! lists of lots as data; len as a key. -/
namespace AsLot
open PySem PySem.Spec PyProof.Rows L2 AsSort AsKit AsLcN AsZipG
open Evl (Ex Ev EvT EvA)
/-- a list of lots as data -/
abbrev nlD (r : List Nat) : PyData := .list (r.map natD)
def natsOf : List PyData → List Nat
  | .int i :: r => i.toNat :: natsOf r
  | _ => []
theorem nats_row : ∀ r : List Nat, natsOf (r.map natD) = r
  | [] => rfl
  | n :: r => by show (n : Int).toNat :: natsOf (r.map natD) = n :: r; rw [nats_row r]; rfl
def natsD : PyData → List Nat
  | .list ds => natsOf ds
  | _ => []
theorem natsD_row (r : List Nat) : natsD (nlD r) = r := nats_row r
def listsD : PyData → List (List Nat)
  | .list ds => ds.map natsD
  | _ => []
theorem listsD_of (ls : List (List Nat)) : listsD (.list (ls.map nlD)) = ls := by
  show (ls.map nlD).map natsD = ls
  rw [List.map_map]
  have : natsD ∘ nlD = id := funext fun r => natsD_row r
  rw [this, List.map_id]
section
variable {K : PySem.W.Frag} {σ : L2.St} {H : Hp} {te : TE} {ta : TA} {ds : List PyData}
theorem imm_row (r : List Nat) : immAll (r.map natD) = true := natD_imm r
theorem dp_row {G : Hp} : ∀ r : List Nat, DpAll K G (r.map fun (n : Nat) => V.int (n : Int)) (r.map natD)
  | [] => .nil
  | _ :: r => .cons (.int _) (dp_row r)
/-- list(x) of a list or a tuple -/
def rListQ (K : PySem.W.Frag) : List V → Hp → VK → Prop := fun xs H Q => ∃ p ys, xs = [.ref p] ∧ (SqL K H p ys ∨ SqT K H p ys) ∧ ∀ l, H l = none → Q (.ref l) (upd H l (.lst ys))
theorem d_listL (h : EvD K te σ H (.list ds)) : EvD K (tCB (rListQ K) (tCons te tNil)) σ H (.list ds) := fun H1 a Q q =>
  h H1 a _ fun v H2 x hd => by
    cases hd with
    | lst hs hx => exact ⟨_, _, rfl, .inl hs, fun l nl => q _ _ (x.trans (Ex.new nl)) (.lst (Evl.sq_of upd_same) (dpAll_ex (Ex.new nl) hx))⟩
theorem d_listT (h : EvD K te σ H (.tuple ds)) : EvD K (tCB (rListQ K) (tCons te tNil)) σ H (.list ds) := fun H1 a Q q =>
  h H1 a _ fun v H2 x hd => by
    cases hd with
    | tup hs hx => exact ⟨_, _, rfl, .inr hs, fun l nl => q _ _ (x.trans (Ex.new nl)) (.lst (Evl.sq_of upd_same) (dpAll_ex (Ex.new nl) hx))⟩
theorem f_listL (h : EvD K te σ H (.list ds)) : EvF K (tCB (rListQ K) (tCons te tNil)) σ H ds := fun H1 a Q q =>
  h H1 a _ fun v H2 x hd => by
    cases hd with
    | lst hs hx => exact ⟨_, _, rfl, .inl hs, fun l nl => q _ _ (none_back x nl) (x.trans (Ex.new nl)) ⟨_, upd_same, dpAll_ex (Ex.new nl) hx⟩⟩
theorem f_listT (h : EvD K te σ H (.tuple ds)) : EvF K (tCB (rListQ K) (tCons te tNil)) σ H ds := fun H1 a Q q =>
  h H1 a _ fun v H2 x hd => by
    cases hd with
    | tup hs hx => exact ⟨_, _, rfl, .inr hs, fun l nl => q _ _ (none_back x nl) (x.trans (Ex.new nl)) ⟨_, upd_same, dpAll_ex (Ex.new nl) hx⟩⟩
/-- one | other of pairs -/
def orD : PyData → PyData
  | .tuple [.int i, .int j] => natD (i.toNat ||| j.toNat)
  | _ => .none
theorem filter_true {α : Type} (xs : List α) : (xs.filter fun _ => true) = xs := List.filter_eq_self.mpr fun _ _ => rfl
theorem pairs_nats (a b : List Nat) : pairsG (nlD a) (nlD b) = (a.zip b).map fun p => .tuple [natD p.1, natD p.2] := by
  show ((a.map natD).zip (b.map natD)).map (fun p => PyData.tuple [p.1, p.2]) = _
  rw [List.zip_map, List.map_map]
  rfl
theorem join_or (a b : List Nat) : ((pairsG (nlD a) (nlD b)).filter fun _ => true).map orD = (join2 a b).map natD := by
  rw [filter_true, pairs_nats, List.map_map]
  unfold join2
  rw [List.map_map]
  rfl
/-- sorted by len -/
def lenN : PyData → Nat
  | .str z => z.length
  | .list xs => xs.length
  | .tuple xs => xs.length
  | _ => 0
def hasLen : PyData → Prop
  | .str z => z.length ≤ 100000
  | .list _ => True
  | .tuple _ => True
  | _ => False
theorem lenAt_of {v : V} {d : PyData} (h : Dp K H v d) (hl : hasLen d) : LenAt K H v (lenN d) := by
  cases h with
  | str z => exact .inl ⟨z, rfl, Evl.sz_of hl, rfl⟩
  | lst hs hx => exact .inr ⟨_, _, rfl, .inl hs, (dpAll_len hx).symm⟩
  | tup hs hx => exact .inr ⟨_, _, rfl, .inr hs, (dpAll_len hx).symm⟩
  | non => exact hl.elim
  | bl => exact hl.elim
  | int => exact hl.elim
def byLen (rev : Bool) (ds : List PyData) : List PyData := ds.mergeSort (PySem.W.dataLe rev fun d => natD (lenN d))
theorem d_sortLen {rev : Bool} (h : EvDs K ta σ H [.list ds]) (hl : ∀ d ∈ ds, hasLen d) : EvD K (tSortLen K rev ta) σ H (.list (byLen rev ds)) := fun H1 a Q q =>
  h H1 a _ fun vs H2 x hd => by
    obtain ⟨v, rfl, hv⟩ := dp1 hd
    cases hv with
    | lst hs hx =>
      rename_i p xs
      refine ⟨p, xs, ds.map lenN, rfl, .inl hs, by rw [List.length_map, dpAll_len hx], fun i y n hy hn => ?_, fun l G nl e => ?_⟩
      · rw [List.getElem?_map] at hn
        cases hi : ds[i]? with
        | none => rw [hi] at hn; cases hn
        | some d =>
          rw [hi] at hn
          obtain rfl := Option.some.inj hn
          exact lenAt_of (dpAll_get hx hy hi) (hl d (List.mem_of_getElem? hi))
      · have e2 : Ex H2 G := (Ex.new nl).trans e
        have hb := byKey_dp (rev := rev) (fun d => natD (lenN d)) (dpAll_ex e2 hx)
        have em : (ds.map lenN).map natD = ds.map fun d => natD (lenN d) := by rw [List.map_map]; rfl
        rw [em] at e
        exact q _ G (x.trans e2) (.lst (Evl.sq_of (e _ _ upd_same)) hb)
theorem byLen_perm (rev : Bool) (ds : List PyData) : (byLen rev ds).Perm ds := List.mergeSort_perm ..
end
end AsLot

set_option maxHeartbeats 4000000
set_option autoImplicit false
/-! {k: v for x in e for y in e2}: a dict of two clauses without tests. -/
namespace L2
open PySem PySem.Spec PyProof.Rows
section
variable {kx vx t0 i0 t1 i1 : Expr} {scope : Scope} {pos : Pos} {it acc : Value} {env : Env} {D : Addr}
/-- the comprehension -/
abbrev DcE (kx vx t0 i0 t1 i1 : Expr) (scope : Scope) (pos : Pos) : Expr := .DictComp kx vx [⟨t0, i0, [], 0⟩, ⟨t1, i1, [], 0⟩] scope pos
theorem dcTurn_out : compTurn (DcE kx vx t0 i0 t1 i1 scope pos) 0 it acc env = (do
    standAt i0.pos
    match ← pyNext it with
    | none => pure (.done .next)
    | some v => do
      letOwnedTupleGo t0 it v
      assign t0 env v
      let x ← eval i1 env
      standAt i1.pos
      let y ← foldedSetIterable i1 env x
      let _ ← runOwn (.compStart (DcE kx vx t0 i0 t1 i1 scope pos) 1 (← holding [y] (pyIter y)) acc env) env
      again (.compLoop (DcE kx vx t0 i0 t1 i1 scope pos) 0 it acc env)) := by rfl
theorem dcTurn_in : compTurn (DcE kx vx t0 i0 t1 i1 scope pos) 1 it (.ref D) env = (do
    standAt i1.pos
    match ← pyNext it with
    | none => pure (.done .next)
    | some v => do
      letOwnedTupleGo t1 it v
      assign t1 env v
      (do
        let a ← eval kx env
        let b ← holding [a] (eval vx env)
        standAt { kx.pos with endLine := vx.pos.endLine, endCol := vx.pos.endCol }
        holding [a, b] (dictSet D a b))
      again (.compLoop (DcE kx vx t0 i0 t1 i1 scope pos) 1 it (.ref D) env)) := by rfl
end
section
variable {P : Program} {w : World} {A : Around} {R : Result → Shared → Prop} {s : Shared} {kx vx t0 i0 t1 i1 : Expr} {scope : Scope} {pos : Pos} {it acc : Value} {env : Env} {D : Addr}
abbrev nb (P : Program) (w : World) (A : Around) (env : Env) (R : Result → Shared → Prop) : Value → Shared → Prop := notedBy (model P w) A env fun e s' => R (.error e) s'
theorem dcLoop_out (hs : ∀ x, foldedSetIterable i1 env x = pure x) (J : Nat → Shared → Prop)
    (turn : ∀ n s, J n s → wpAny (model P w) A (pyNext it) (fun r s1 => match r with
      | none => R (.ok .next) s1
      | some v => wpAny (model P w) A (letOwnedTupleGo t0 it v) (fun _ s2 => wpAny (model P w) A (assign t0 env v) (fun _ s3 =>
          wpAny (model P w) A (eval i1 env) (fun x s4 => wpAny (model P w) A (pyIter x) (fun it1 s5 =>
            codeAny (model P w) A (.compStart (DcE kx vx t0 i0 t1 i1 scope pos) 1 it1 acc env) (fun r s6 => match r with
              | .ok _ => ∃ m, m < n ∧ J m s6
              | .error _ => False) s5) (nb P w A env R) s4) (nb P w A env R) s3) (nb P w A env R) s2) (nb P w A env R) s1) (nb P w A env R) s)
    (n : Nat) (h : J n s) : codeAny (model P w) A (.compLoop (DcE kx vx t0 i0 t1 i1 scope pos) 0 it acc env) R s := by
  refine codeAny_loop rfl J (fun k t hJ => ?_) n h
  show wpAny _ A ((compTurn (DcE kx vx t0 i0 t1 i1 scope pos) 0 it acc env).onRaise (fun x => do noteFrame x env; theTreesLotGoes x)) _ _ t
  refine wpAny_noted ?_
  rw [dcTurn_out]
  refine wpAny_bind (wpAny_standAt (wpAny_bind (wpAny_mono (turn k t hJ) (fun r t1 g1 => ?_) fun _ _ z => z)))
  cases r with
  | none => exact wpAny_pure g1
  | some v =>
    refine wpAny_bind (wpAny_mono g1 (fun _ t2 g2 => wpAny_bind (wpAny_mono g2 (fun _ t3 g3 => wpAny_bind (wpAny_mono g3 (fun x t4 g4 => ?_) fun _ _ z => z)) fun _ _ z => z)) fun _ _ z => z)
    refine wpAny_bind (wpAny_standAt (wpAny_bind (wpAny_of_eq (hs x) (wpAny_bind (wpAny_holding (wpAny_mono g4 (fun _ t5 g5 => wpAny_bind (wpAny_runOwn ?_)) fun _ _ z => z))))))
    rw [Around.mark_none]
    refine codeAny_mono g5 fun r t6 g6 => ?_
    cases r with
    | ok f => exact wpAny_pure ⟨rfl, g6⟩
    | error e => exact g6.elim
theorem dcLoop_in (J : Nat → Shared → Prop)
    (turn : ∀ n s, J n s → wpAny (model P w) A (pyNext it) (fun r s1 => match r with
      | none => R (.ok .next) s1
      | some v => wpAny (model P w) A (letOwnedTupleGo t1 it v) (fun _ s2 => wpAny (model P w) A (assign t1 env v) (fun _ s3 =>
          wpAny (model P w) A (eval kx env) (fun a s4 => wpAny (model P w) A (eval vx env) (fun b s5 =>
            wpAny (model P w) A (dictSet D a b) (fun _ s6 => ∃ m, m < n ∧ J m s6) (nb P w A env R) s5) (nb P w A env R) s4) (nb P w A env R) s3) (nb P w A env R) s2) (nb P w A env R) s1) (nb P w A env R) s)
    (n : Nat) (h : J n s) : codeAny (model P w) A (.compLoop (DcE kx vx t0 i0 t1 i1 scope pos) 1 it (.ref D) env) R s := by
  refine codeAny_loop rfl J (fun k t hJ => ?_) n h
  show wpAny _ A ((compTurn (DcE kx vx t0 i0 t1 i1 scope pos) 1 it (.ref D) env).onRaise (fun x => do noteFrame x env; theTreesLotGoes x)) _ _ t
  refine wpAny_noted ?_
  rw [dcTurn_in]
  refine wpAny_bind (wpAny_standAt (wpAny_bind (wpAny_mono (turn k t hJ) (fun r t1 g1 => ?_) fun _ _ z => z)))
  cases r with
  | none => exact wpAny_pure g1
  | some v =>
    refine wpAny_bind (wpAny_mono g1 (fun _ t2 g2 => wpAny_bind (wpAny_mono g2 (fun _ t3 g3 => ?_) fun _ _ z => z)) fun _ _ z => z)
    refine wpAny_bind (wpAny_bind (wpAny_mono g3 (fun a t4 g4 => wpAny_bind (wpAny_holding (wpAny_mono g4 (fun b t5 g5 => ?_) fun _ _ z => z))) fun _ _ z => z))
    exact wpAny_bind (wpAny_standAt (wpAny_holding (wpAny_mono g5 (fun _ t6 g6 => wpAny_pure ⟨rfl, g6⟩) fun _ _ z => z)))
theorem dcStart_in (h0 : codeAny (model P w) A (.compLoop (DcE kx vx t0 i0 t1 i1 scope pos) 1 it acc env) R s)
    (h : wpAny (model P w) A (pyIter it) (fun x t => codeAny (model P w) A (.compLoop (DcE kx vx t0 i0 t1 i1 scope pos) 1 x acc env) R t) (nb P w A env R) s) :
    codeAny (model P w) A (.compStart (DcE kx vx t0 i0 t1 i1 scope pos) 1 it acc env) R s := by
  refine codeAny_of_tree ?_
  show wpAny _ _ ((compStart (DcE kx vx t0 i0 t1 i1 scope pos) 1 it acc env).onRaise (fun x => do noteFrame x env; standAt theWindowsPlace)) _ _ s
  refine wpAny_notedAt ?_
  unfold compStart
  show wpAny _ _ (ask >>= _) _ _ s
  refine wpAny_bind (wpAny_askSetting (wpAny_ite ?_))
  split
  · first
      | exact wpAny_bind (wpAny_pure (wpAny_pure ⟨rfl, h0⟩))
      | exact wpAny_pure ⟨rfl, h0⟩
  · first
      | exact wpAny_bind (wpAny_rule (wpAny_bind (wpAny_standAt (wpAny_bind (wpAny_mono h (fun x t z => wpAny_pure ⟨rfl, z⟩) fun _ _ z => z)))))
      | (refine wpAny_bind (wpAny_rule ?_); show wpAny _ _ (standAt i1.pos >>= _) _ _ s; exact wpAny_bind (wpAny_standAt (wpAny_bind (wpAny_mono h (fun x t z => wpAny_pure ⟨rfl, z⟩) fun _ _ z => z))))
end
end L2

set_option maxHeartbeats 4000000
set_option autoImplicit false
/-! {k: v for x in e for y in e2} as a reading. -/
namespace L2
open PySem PySem.Spec PyProof.Rows
/-- D: the new dict; behind the first target's store the second source's own loop, from which Nx is reached -/
def tDc2 (wi : TI) (g : TG) (wi1 : TI) (g1 : TG) (tk tv : TE) (vs vs1 : List Nat) : TE := fun σ H Q => wi σ H fun J G => ∀ D, G D = none → ∃ W : Nat → Nat → Hp → Prop, (∃ m, W 0 m (upd G D (.dK []))) ∧ ∀ i m H, W i m H →
  (J.stop i H ∧ Q (.ref D) H) ∨ (J.go i H ∧ ∃ Nx : Hp → Prop, (∀ G', Nx G' → ∃ l, l < m ∧ W (i + 1) l G') ∧ ∀ x G', J.yld i H x G' → g x (wipe σ vs) G' fun τ H2 => wipe τ vs = wipe σ vs ∧
    wi1 τ H2 fun J1 H4 => ∃ W1 : Nat → Nat → Hp → Prop, (∃ m, W1 0 m H4) ∧ ∀ j k H, W1 j k H → (J1.stop j H ∧ Nx H) ∨ (J1.go j H ∧ ∃ Ny : Hp → Prop, (∀ G', Ny G' → ∃ l, l < k ∧ W1 (j + 1) l G') ∧
      ∀ y G', J1.yld j H y G' → g1 y (wipe τ vs1) G' fun τ3 H5 => wipe τ3 vs1 = wipe τ vs1 ∧ tk τ3 H5 fun u H7 => tv τ3 H7 fun z H8 => ∃ kvs k, u = kV k ∧ H8 D = some (.dK kvs) ∧ kvs.length < sizeLine ∧ Ny (upd H8 D (.dK (putK kvs k z)))))
section
variable {X : Cx} {kx vx t0 i0 t1 i1 : Expr} {scope : Scope} {own : List (Str × Nat)} {vs1 : List Nat} {wi wi1 : TI} {g g1 : TG} {tk tv : TE}
/-- in each block of the comprehension -/
abbrev InBlk (X : Cx) (scope : Scope) (p : Cx → Prop) : Prop := ∀ (s : Shared) (H : Hp) (C : Addr) (cl : List (Str × Addr)) (fp : List Addr), p (X.blk s H scope (compEnvC scope cl C X.env) fp)
theorem dc2_core {pins : List (Addr × Obj)} {s : Shared} {σ : St} {H : Hp} {Q : VK} {pos pos' : Pos} {use : Option (Value → Sem Unit)} {Qf : Value → Shared → Prop}
    (calm : X.calm = true) (nd : X.N.Nodup) (I : Inv X pins σ H s) (src : PI X t0 i0 wi) (ok : BlkOk X.N X.env.scope scope own) (hv : ∀ i ∈ vs1, i ∈ own.map (·.2)) (tgt : InBlk X scope fun Y => PG Y t0 g) (src1 : InBlk X scope fun Y => PI Y t1 i1 wi1) (tgt1 : InBlk X scope fun Y => PG Y t1 g1)
    (key : InBlk X scope fun Y => PE Y kx tk) (val : InBlk X scope fun Y => PE Y vx tv) (hs : ∀ x, foldedSetIterable i0 X.env x = pure x) (hs1 : ∀ env x, foldedSetIterable i1 env x = pure x)
    (h : tDc2 wi g wi1 g1 tk tv (own.map (·.2)) vs1 σ H Q)
    (out : ∀ D C t m G, Inv X pins σ G t → Q (.ref D) G → t.heap.Ns C m → FpOk X pins G C → compPost (model X.prog X.w) X.A X.xe use Qf (.ref D) C (.ok .next) t) :
    wpAny (model X.prog X.w) X.A (comprehension (DcE kx vx t0 i0 t1 i1 scope pos) scope X.env pos' newDict false (eval i0 X.env) use) Qf X.xe s := by
  have cellsOk : ∀ q ∈ scope.names, q.2 = .free → ∃ c, X.env.cells.lookup q.1 = some c := fun q hq e => (ok.free q hq e).elim (fun k => I.ok.has _ (.inl k)) fun k => I.ok.has _ (.inr k)
  refine wpAny_comprehension_free (use := use) rfl hs (closure_ok cellsOk) ok.kind (fun q hq e => (ok.uniq q hq).trans (congrArg some e)) (thn (src.run pins s σ H _ I h) fun _ _ z1 => thn z1 fun _ s1 z2 => ?_)
  obtain ⟨it, fp, tn, J, G1, rfl, I1, T, u1, f1, q⟩ := z2
  refine wpAny_newObj_type (newEnv_comp ?_)
  obtain ⟨D, eD⟩ : ∃ D, D = s1.heap.objs.size := ⟨_, rfl⟩
  have fresh : G1 D = none := I1.hok.fresh (by rw [eD]; exact Nat.le_refl _)
  obtain ⟨W, ⟨m0, w0⟩, turn⟩ := q D fresh
  obtain ⟨dob, edo⟩ : ∃ dob : Obj, dob = { cls := .type "dict", data := .dict #[] } := ⟨_, rfl⟩
  obtain ⟨s2, e2⟩ : ∃ s2 : Shared, s2 = { s1 with heap := s1.heap.push dob } := ⟨_, rfl⟩
  have up2 : ∀ b o, s1.heap.get? b = some o → s2.heap.get? b = some o := fun b o q => by rw [e2]; exact Heap.get?_push_of_some _ q
  have I2 : Inv X pins σ (upd G1 D (.dK [])) s2 := by
    rw [e2, edo]
    refine I1.laid (t' := s1.toks) (fun b o q => Heap.get?_push_of_some _ q) (by rw [eD]; exact Nat.le_refl _) ?_
    rw [eD]
    exact dk_empty s1.heap I1.big
  have f2 : ∀ b ∈ fp, FpOk X pins (upd G1 D (.dK [])) b ∧ b < s2.heap.objs.size := fun b hb => by
    obtain ⟨o, q, _⟩ := T.obj _ _ u1 b hb
    have lt := Heap.lt_size q
    have nD : b ≠ D := fun z => by rw [z, eD] at lt; exact Nat.lt_irrefl _ lt
    exact ⟨⟨(upd_ne nD).trans (f1 b hb).1, (f1 b hb).2⟩, Heap.lt_size (up2 b o q)⟩
  obtain ⟨ce, ece⟩ : ∃ ce, ce = compEnvC scope (cellsFrom (s2.heap.objs.size + 1) scope.names (cloFrom X.env.cells scope.names [])) s2.heap.objs.size X.env := ⟨_, rfl⟩
  have locE : ce.locals = s2.heap.objs.size := by rw [ece]; rfl
  obtain ⟨s3, e3⟩ : ∃ s3 : Shared, s3 = { s2 with heap := pushCells (s2.heap.push { cls := .type "dict", data := .dict #[] }) scope.names } := ⟨_, rfl⟩
  have up3 : ∀ b o, s2.heap.get? b = some o → s3.heap.get? b = some o := fun b o q => by rw [e3]; exact pushCells_keeps _ _ _ _ (Heap.get?_push_of_some _ q)
  obtain ⟨Y, eY⟩ : ∃ Y, Y = X.blk s2 (upd G1 D (.dK [])) scope ce fp := ⟨_, rfl⟩
  have I3 : Inv Y [] (wipe σ (own.map (·.2))) (upd G1 D (.dK [])) s3 := by
    rw [eY, ece, e3]
    exact block_start I2 ok nd f2
  have v3 : tn 0 s3.heap := T.keep _ _ _ u1 fun b _ o q => up3 b o (up2 b o q)
  have pt := tgt s2 (upd G1 D (.dK [])) s2.heap.objs.size (cellsFrom (s2.heap.objs.size + 1) scope.names (cloFrom X.env.cells scope.names [])) fp
  have ps1 := src1 s2 (upd G1 D (.dK [])) s2.heap.objs.size (cellsFrom (s2.heap.objs.size + 1) scope.names (cloFrom X.env.cells scope.names [])) fp
  have pt1 := tgt1 s2 (upd G1 D (.dK [])) s2.heap.objs.size (cellsFrom (s2.heap.objs.size + 1) scope.names (cloFrom X.env.cells scope.names [])) fp
  have pk := key s2 (upd G1 D (.dK [])) s2.heap.objs.size (cellsFrom (s2.heap.objs.size + 1) scope.names (cloFrom X.env.cells scope.names [])) fp
  have pv := val s2 (upd G1 D (.dK [])) s2.heap.objs.size (cellsFrom (s2.heap.objs.size + 1) scope.names (cloFrom X.env.cells scope.names [])) fp
  rw [← ece, ← eY] at pt ps1 pt1 pk pv
  have nfp0 : ∀ b ∈ fp, upd G1 D (.dK []) b = none := fun b hb => (f2 b hb).1.1
  have here : ∀ {τ : St} {G : Hp} {t : Shared}, Inv Y [] τ G t → (∀ b ∈ fp, G b = none) → ∀ b ∈ fp, FpOk Y [] G b := by
    rw [eY]
    exact fun {τ G t} K n b hb => ⟨n b hb, (K.ok.exf b hb).1, K.ok.exfs b hb, .inl hb, fun q c e => (K.ok.exf b hb).2 q c e, fun p hp => absurd (show p ∈ ([] : List (Addr × Obj)) ++ [] from hp) (by simp)⟩
  have eP : Y.prog = X.prog ∧ Y.w = X.w ∧ Y.A = X.A ∧ Y.env = ce ∧ Y.xe = fun _ _ => False := by rw [eY]; exact ⟨rfl, rfl, rfl, rfl, rfl⟩
  have done_ : ∀ {G : Hp} {t : Shared}, Inv Y [] (wipe σ (own.map (·.2))) G t → Q (.ref D) G → compPost (model X.prog X.w) X.A X.xe use Qf (.ref D) s2.heap.objs.size (.ok .next) t := by
    intro G t K qq
    rw [eY] at K
    have KX : Inv X pins σ G t := I2.call' (ch := fp) K.os K.base K.hok K.bare fun b hb => ⟨(f2 b hb).1.2.2.2.1, (f2 b hb).1.2.1, (f2 b hb).1.2.2.2.2.1, (f2 b hb).1.2.2.2.2.2⟩
    have nC : G s2.heap.objs.size = none := by
      have z : G ce.locals = none := K.free
      rwa [locE] at z
    obtain ⟨m, hn, _⟩ := K.loc
    have hn : t.heap.Ns ce.locals m := hn
    rw [locE] at hn
    exact out D _ t m G KX qq hn (I2.fpOk (Nat.le_refl _) nC)
  have loop : codeAny (model X.prog X.w) X.A (.compLoop (DcE kx vx t0 i0 t1 i1 scope pos) 0 (.ref it) (.ref D) ce) (compPost (model X.prog X.w) X.A X.xe use Qf (.ref D) s2.heap.objs.size) s3 := by
    refine dcLoop_out (hs1 ce) (fun l t => ∃ i G, Inv Y [] (wipe σ (own.map (·.2))) G t ∧ tn i t.heap ∧ (∀ b ∈ fp, G b = none) ∧ W i l G) ?_ m0 ⟨0, _, I3, v3, nfp0, w0⟩
    rintro l t4 ⟨i, G, I4, v4, n4, w4⟩
    rcases turn i l G w4 with ⟨stop, qq⟩ | ⟨go, Nx, hNx, step⟩
    · have td := T.done Y (by rw [eY]) (by rw [eY]) (by rw [eY]) (by rw [eY]; exact calm) i [] t4 _ G (fun _ _ => False) I4 (here I4 n4) v4 stop
      rw [eP.2.2.1] at td
      refine thnF td fun r t5 ⟨er, I5⟩ => ?_
      subst er
      exact done_ I5 qq
    · have ti := T.item Y (by rw [eY]) (by rw [eY]) (by rw [eY]) (by rw [eY]; exact calm) i [] t4 _ G (fun _ _ => False) I4 (here I4 n4) v4 go
      rw [eP.2.2.1] at ti
      refine thnF ti fun r t5 ⟨u, er, h5⟩ => ?_
      subst er
      refine thnF h5 fun _ t6 ⟨x, G6, I6, r6, y6, v6, n6⟩ => ?_
      have I6p := I6.pinned (here I6 n6) (T.obj _ _ v6)
      have rt := pt.run _ t6 _ G6 x u _ I6p r6 (step x G6 y6)
      rw [eP.1, eP.2.1, eP.2.2.1, eP.2.2.2.1, eP.2.2.2.2] at rt
      refine thnF rt fun _ t7 ⟨τ, G7, I7, eτ, q7⟩ => ?_
      have rs := ps1.run _ t7 τ G7 _ I7 q7
      rw [eP.1, eP.2.1, eP.2.2.1, eP.2.2.2.1, eP.2.2.2.2] at rs
      refine thnF rs fun _ t8 z8 => thnF z8 fun _ t9 z9 => ?_
      obtain ⟨it1, fp1, tn1, J1, G9, rfl, I9, T1, v9, f9, W1, ⟨m1, w1⟩, turn1⟩ := z9
      rw [eP.1, eP.2.1] at T1
      have here1 : ∀ {G : Hp}, (∀ b ∈ fp1, G b = none) → ∀ b ∈ fp1, FpOk Y ([] ++ pinsAt fp t6.heap) G b := fun n b hb => ⟨n b hb, (f9 b hb).2⟩
      -- the outer turn's end
      have fin : ∀ {τ' : St} {t : Shared} {G : Hp}, Inv Y ([] ++ pinsAt fp t6.heap) τ' G t → (wipe σ (own.map (·.2))).length = τ'.length → (∀ (j : Nat) v, (wipe σ (own.map (·.2)))[j]? = some (some v) → τ'[j]? = some (some v)) → Nx G →
          ∃ m, m < l ∧ ∃ i G, Inv Y [] (wipe σ (own.map (·.2))) G t ∧ tn i t.heap ∧ (∀ b ∈ fp, G b = none) ∧ W i m G := fun {τ' t G} K hl hk nx => by
        obtain ⟨m', hm, w'⟩ := hNx G nx
        have stay : ∀ b ∈ fp, ∀ o, t6.heap.get? b = some o → t.heap.get? b = some o ∧ G b = none := fun b hb o e =>
          have q := K.pin (b, o) (List.mem_append_right _ (List.mem_append_right _ (mem_pinsAt hb e)))
          ⟨q.1, q.2.1⟩
        refine ⟨m', hm, i + 1, G, (K.unpinned (pins := [])).weak hl hk, T.keep _ _ _ v6 fun b hb o e => (stay b hb o e).1, fun b hb => ?_, w'⟩
        obtain ⟨o, e, _⟩ := T.obj _ _ v6 b hb
        exact (stay b hb o e).2
      have l7 : (wipe σ (own.map (·.2))).length = τ.length := by rw [← eτ, wipe_length]
      have k7 : ∀ (j : Nat) v, (wipe σ (own.map (·.2)))[j]? = some (some v) → (wipe τ vs1)[j]? = some (some v) := fun j v e => by
        rw [← eτ] at e
        obtain ⟨a, b⟩ := wipe_some e
        rw [wipe_out fun z => b (hv j z)]
        exact a
      have loop1 : codeAny (model X.prog X.w) X.A (.compLoop (DcE kx vx t0 i0 t1 i1 scope pos) 1 (.ref it1) (.ref D) ce) (fun r t => match r with
          | .ok _ => ∃ m, m < l ∧ ∃ i G, Inv Y [] (wipe σ (own.map (·.2))) G t ∧ tn i t.heap ∧ (∀ b ∈ fp, G b = none) ∧ W i m G
          | .error _ => False) t9 := by
        refine dcLoop_in (fun k t => ∃ j G, Inv Y ([] ++ pinsAt fp t6.heap) (wipe τ vs1) G t ∧ tn1 j t.heap ∧ (∀ b ∈ fp1, G b = none) ∧ W1 j k G) ?_ m1 ⟨0, G9, I9.weak (wipe_length _ _) (fun j v e => (wipe_some e).1), v9, fun b hb => (f9 b hb).1, w1⟩
        rintro k t10 ⟨j, G10, I10, v10, n10, w10⟩
        rcases turn1 j k G10 w10 with ⟨stop1, nx1⟩ | ⟨go1, Ny, hNy, step1⟩
        · have td := T1.done Y (by rw [eY]) (by rw [eY]) (by rw [eY]) (by rw [eY]; exact calm) j _ t10 (wipe τ vs1) G10 (fun _ _ => False) I10 (here1 n10) v10 stop1
          rw [eP.2.2.1] at td
          refine thnF td fun r t11 ⟨er, I11⟩ => ?_
          subst er
          exact fin I11 (l7.trans (wipe_length τ vs1).symm) k7 nx1
        · have ti := T1.item Y (by rw [eY]) (by rw [eY]) (by rw [eY]) (by rw [eY]; exact calm) j _ t10 (wipe τ vs1) G10 (fun _ _ => False) I10 (here1 n10) v10 go1
          rw [eP.2.2.1] at ti
          refine thnF ti fun r t11 ⟨u1, er, h11⟩ => ?_
          subst er
          refine thnF h11 fun _ t12 ⟨x1, G12, I12, r12, y12, v12, n12⟩ => ?_
          have I12p := I12.pinned (here1 n12) (T1.obj _ _ v12)
          have rt := pt1.run _ t12 (wipe τ vs1) G12 x1 u1 _ I12p r12 (step1 x1 G12 y12)
          rw [eP.1, eP.2.1, eP.2.2.1, eP.2.2.2.1, eP.2.2.2.2] at rt
          refine thnF rt fun _ t13 ⟨τ3, G13, I13, eτ3, q13⟩ => ?_
          have rk := pk.run _ t13 τ3 G13 _ I13 q13
          rw [eP.1, eP.2.1, eP.2.2.1, eP.2.2.2.1, eP.2.2.2.2] at rk
          refine thnF rk fun z t14 ⟨yk, G14, I14, r14, q14⟩ => ?_
          have rv := pv.run _ t14 τ3 G14 _ I14 q14
          rw [eP.1, eP.2.1, eP.2.2.1, eP.2.2.2.1, eP.2.2.2.2] at rv
          refine thnF rv fun z2 t15 ⟨yv, G15, I15, r15, kvs, k', ek, hD15, hz15, ny⟩ => ?_
          subst ek
          have ds := d_dictSet (X := Y) (E := fun _ _ => False) (Q := fun _ t => ∃ m, m < k ∧ ∃ j G, Inv Y ([] ++ pinsAt fp t6.heap) (wipe τ vs1) G t ∧ tn1 j t.heap ∧ (∀ b ∈ fp1, G b = none) ∧ W1 j m G) I15 hD15 hz15 r14 r15 fun t16 I16 => by
            obtain ⟨m', hm, w'⟩ := hNy _ ny
            have stay : ∀ b ∈ fp1, ∀ o, t12.heap.get? b = some o → t16.heap.get? b = some o ∧ (upd G15 D (.dK (putK kvs k' yv))) b = none := fun b hb o e =>
              have q := I16.pin (b, o) (List.mem_append_right _ (List.mem_append_right _ (mem_pinsAt hb e)))
              ⟨q.1, q.2.1⟩
            refine ⟨m', hm, j + 1, _, I16.unpinned.weak (by rw [← eτ3, wipe_length]) (fun j v e => by rw [← eτ3] at e; exact (wipe_some e).1), T1.keep _ _ _ v12 fun b hb o e => (stay b hb o e).1, fun b hb => ?_, w'⟩
            obtain ⟨o, e, _⟩ := T1.obj _ _ v12 b hb
            exact (stay b hb o e).2
          rw [eP.1, eP.2.1, eP.2.2.1] at ds
          exact thnF ds fun _ _ z => z
      exact dcStart_in loop1 (T1.self X.A 0 _ _ _ v9 loop1)
  have fin := codeAny_compStart_dict loop (T.self X.A 0 _ _ _ v3 loop)
  rw [ece, e3] at fin
  subst e2 edo
  rw [eD] at fin
  exact fin
end
end L2

set_option maxHeartbeats 4000000
set_option autoImplicit false
/-! rows through rows, rows joined. -/
namespace K14
open PySem PySem.Spec PyProof.Rows L2 AsSort AsKit AsToo AsObj AsLot AsZipG AsLcN
open Evl (Ex Ev EvT EvA)
abbrev sThru : Stmt := top 46
abbrev sJoined : Stmt := top 47
section
variable {P : Program} {w : World} {K : PySem.W.Frag} {mg : Str → Option Value} {base : Heap} {C : Addr}
theorem fw_bt {H G : Hp} {a kd : Addr} {rows : List Nat} {m n : Nat} {kvs : List (List Key × V)} (h : FwAt K C H a kd rows m) (b : Bt kd H G) (hk : G kd = some (.dT kvs)) (ok : KeptOk rows kvs) (hl : kvs.length ≤ n) : FwAt K C G a kd rows n := by
  obtain ⟨dx, v, kvs0, h1, h2, h3, _, _⟩ := h
  refine ⟨dx, v, kvs, b _ _ (fun e => by rw [e, h3] at h1; cases h1) h1, h2.stay fun x o n hx => b x o (fun e => by rw [e, h3] at hx; exact n _ (Option.some.inj hx).symm) hx, hk, ok, hl⟩
abbrev nThru : List Str := ["rows", "others", "follower", "lot"]
theorem sc_thru : FnScope nThru ["rows", "others"] (defScope sThru) := ⟨rfl, rfl, rfl, by decide +kernel, rfl, by decide +kernel, by decide +kernel⟩
def ThruOk (r o : List Nat) : Prop := (∀ x ∈ r, x < 2 ^ o.length) ∧ r.length ≤ 2000 ∧ o.length ≤ 2000
def two' (g : PyData → PyData → List PyData) : List PyData → List PyData
  | [d, e] => g d e
  | _ => []
abbrev spThru (K : PySem.W.Frag) : Sp := spF K (fun ds => ∃ r o, ds = [nlD r, nlD o] ∧ ThruOk r o) (two' fun r o => (thru (natsD r) (natsD o)).map natD)
theorem c_thru (c : FwC K C) (D : Df K mg "rows_through" sThru) (M0 : Mkp P w K mg base 1 "Follower" C nFInit (spFInit K C)) (M2 : Ml P w K mg base 2 C "behind" ["self", "lot"] (spFBeh K C)) : Cl P w K mg base 3 "rows_through" (spThru K) [] := by
  refine cl_of D sc_thru (len_spF fun ds ⟨r, o, h, _⟩ => by rw [h]; rfl) (fun _ _ _ _ _ _ us hl => match us, hl with | [_, _], _ => rfl) fun f cdv A outer s H vs Q E hr h => ?_
  obtain ⟨ds, hd, ⟨r, o, rfl, ⟨hlt, hrl, hol⟩⟩, q⟩ := h
  obtain ⟨v, v1, rfl, h0, h1⟩ := dp2 hd
  refine ⟨_, pss_cons (ps_set (i := 2) sc_thru.nd rfl (.inr rfl) (pe_mkp M0 hr (by decide) (by rfl) (pa_cons (pv 1) pa_nil)))
    (pss_one (ps_ret (pe_lcn 3 sc_thru.nd (pi_list (pv 0)) (fun _ _ _ _ _ => pts_nil) (fun _ _ _ _ _ => pe_ml M2 hr (by decide) (pv 2) (pa_cons (pv 3) pa_nil)) (fun _ _ _ _ _ => pg_name sc_thru.nd rfl (.inl rfl)) (blkOk_by (N := nThru) (sc := defScope sThru) (own := [("lot", 3)]) (by decide +kernel)) rfl))), ?_⟩
  refine ⟨v1, rfl, fun a dx na ndx nda => ?_⟩
  obtain ⟨H1, eH1⟩ : ∃ H1, H1 = upd (upd H dx (.own a)) a (.ins C dx []) := ⟨_, rfl⟩
  have e1 : Ex H H1 := by
    rw [eH1]
    exact (Ex.new ndx).trans (Ex.new (by rw [upd_ne nda.symm]; exact na))
  rw [← eH1]
  have ha1 : H1 a = some (.ins C dx []) := by rw [eH1, upd_same]
  refine ⟨a, v1, o, dx, rfl, .inl (dp_ex e1 h1), ha1, fun H2 kd hk nkd hF => ⟨rfl, ?_⟩⟩
  have nkd0 : H kd = none := Classical.byContradiction fun z => by
    cases hz : H kd with
    | none => exact z hz
    | some u => rw [e1 _ _ hz] at nkd; cases nkd
  have e2 : Ex H H2 := fun b u hb => hk b u (fun e => by rw [e, na] at hb; cases hb) (e1 b u hb)
  cases h0 with
  | lst hq hx =>
    rename_i p xs
    obtain ⟨σ, eσ⟩ : ∃ σ : L2.St, σ = [some (.ref p), some v1, some (.ref a), none] := ⟨_, rfl⟩
    show tLc (iList K (tVar 0)) (gName 3) tYes (tMeth C ("behind" : Str) (spFBeh K C) [] C8.E0 (tVar 2) (tCons (tVar 3) tNil)) [3] [some (.ref p), some v1, some (.ref a), none] H2 Q
    rw [← eσ]
    refine ⟨.ref p, by rw [eσ]; rfl, p, rfl, ⟨xs, Evl.ex_l e2 hq⟩, fun L nL => ?_⟩
    have xl : xs.length = r.length := by rw [dpAll_len hx]; exact List.length_map ..
    have nLkd : L ≠ kd := fun e => by
      obtain ⟨_, _, _, _, _, h3, _⟩ := hF
      rw [e, h3] at nL
      cases nL
    have nL0 : H L = none := Classical.byContradiction fun z => by
      cases hz : H L with
      | none => exact z hz
      | some u => rw [e2 _ _ hz] at nL; cases nL
    have keep : ∀ {G : Hp}, Bt kd H2 G → Ex H G := fun {G} b x u hx => b x u (fun e => by rw [e, nkd0] at hx; cases hx) (e2 x u hx)
    refine lc_list (fun i G => Bt kd H2 G ∧ FwAt K C G a kd o (i * (o.length + 8)) ∧ G L = some (.lst (((thru r o).take i).map fun (n : Nat) => V.int (n : Int)))) ⟨bt_ex (Ex.new nL), by rw [Nat.zero_mul]; exact hF.ex (Ex.new nL), upd_same⟩ (fun i G _ g => Evl.ex_l (keep g.1) hq) (fun i y G hi g => ?_) fun G g => ?_
    · obtain ⟨g1, g2, g3⟩ := g
      have hi2 : i < r.length := by rw [← xl]; exact (List.getElem?_eq_some_iff.mp hi).1
      have hri : r[i]? = some r[i] := List.getElem?_eq_getElem hi2
      have hy : y = .int (r[i] : Int) := by
        have := dpAll_get hx hi (show (r.map natD)[i]? = some (natD r[i]) by rw [List.getElem?_map, hri]; rfl)
        cases this
        rfl
      subst hy
      refine ⟨by rw [eσ]; rfl, ?_⟩
      obtain ⟨dx', w', kvs', k1, k2, k3, k4, k5⟩ := id g2
      refine ⟨.ref a, by rw [eσ]; rfl, a, dx', _, rfl, k1, rfl, .int (r[i] : Int), by rw [eσ]; rfl, ?_⟩
      have hb : i * (o.length + 8) + o.length + 8 ≤ 16000000 := by
        have h1 : (i + 1) * (o.length + 8) ≤ 2000 * 2008 := Nat.mul_le_mul (by omega) (by omega)
        rw [Nat.add_mul] at h1
        omega
      refine ⟨a, kd, o, _, r[i], rfl, g2, hlt _ (List.getElem_mem hi2), by omega, hb, fun G2 b2 F2 => ?_⟩
      have hL2 := b2 L _ nLkd g3
      refine ⟨_, hL2, Evl.sz_lt (by rw [List.length_map, List.length_take, thru_len]; omega), fun x u n hx => ?_, ?_, ?_⟩
      · rw [upd_ne (fun e => by rw [e, nL] at hx; cases hx)]
        exact b2 x u n (g1 x u n hx)
      · have e3 : (i + 1) * (o.length + 8) = i * (o.length + 8) + o.length + 8 := by rw [Nat.add_mul]; omega
        rw [e3]
        obtain ⟨d3, w3, kv3, m1, m2, m3, m4, m5⟩ := F2
        refine fw_bt hF (fun x u n hx => ?_) ((upd_ne nLkd.symm).trans m3) m4 m5
        rw [upd_ne (fun e => by rw [e, nL] at hx; cases hx)]
        exact b2 x u n (g1 x u n hx)
      · rw [upd_same]
        have : (thru r o)[i]? = some (lotOr o r[i]) := by unfold thru; rw [List.getElem?_map, hri]; rfl
        rw [List.take_add_one, this, List.map_append]
        rfl
    · obtain ⟨g1, g2, g3⟩ := g
      rw [xl, ← thru_len r o, List.take_length] at g3
      refine q _ G nL0 (keep g1) ?_
      show NewL K G L ((thru (natsD (nlD r)) (natsD (nlD o))).map natD)
      rw [natsD_row, natsD_row]
      exact ⟨_, g3, dp_row _⟩
abbrev nJoined : List Str := ["rows", "lists", "joined", "others", "one", "other"]
theorem sc_joined : FnScope nJoined ["rows", "lists"] (defScope sJoined) := ⟨rfl, rfl, rfl, by decide +kernel, rfl, by decide +kernel, by decide +kernel⟩
abbrev llD (ls : List (List Nat)) : PyData := .list (ls.map nlD)
abbrev spJoined (K : PySem.W.Frag) : Sp := spF K (fun ds => ∃ r ls, ds = [nlD r, llD ls] ∧ r.length ≤ 2000) (two' fun r l => (joined (natsD r) (listsD l)).map natD)
theorem join2_le (a b : List Nat) : (join2 a b).length ≤ a.length := by
  unfold join2
  rw [List.length_map, List.length_zip]
  omega
theorem joined_le : ∀ (ls : List (List Nat)) (r : List Nat), (joined r ls).length ≤ r.length
  | [], _ => Nat.le_refl _
  | l :: ls, r => Nat.le_trans (joined_le ls (join2 r l)) (join2_le r l)
theorem c_joined (D : Df K mg "rows_joined" sJoined) (hb : Bl mg) (nz : mg "zip" = none) : Cl P w K mg base 1 "rows_joined" (spJoined K) [] := by
  refine cl_of D sc_joined (len_spF fun ds ⟨r, o, h, _⟩ => by rw [h]; rfl) (fun _ _ _ _ _ _ us hl => match us, hl with | [_, _], _ => rfl) fun f cdv A outer s H vs Q E hr h => ?_
  obtain ⟨ds, hd, ⟨r, ls, rfl, hrl⟩, q⟩ := h
  obtain ⟨v, v1, rfl, h0, h1⟩ := dp2 hd
  refine ⟨_, pss_cons (ps_set (i := 2) sc_joined.nd rfl (.inl rfl) (pe_callTy call_list_of (by rfl) (hb _ (by decide +kernel)) (by decide +kernel) (pa_cons (pv 0) pa_nil)))
    (pss_cons (ps_for PassesOwn.never rfl (pi_list (pv 1)) (pg_name (i := 3) sc_joined.nd rfl (.inl rfl))
      (pss_one (ps_setLc (i := 2) (own := [("one", 4), ("other", 5)]) (g := gTup K 2 (gCons (gName 4) (gCons (gName 5) gNil))) rfl sc_joined.nd rfl rfl (by rfl) (pi_zipG (by rfl) nz (pa_cons (pv 2) (pa_cons (pv 3) pa_nil))) (blkOk_by (N := nJoined) (sc := defScope sJoined) (own := [("one", 4), ("other", 5)]) (by decide +kernel))
        (fun _ _ _ _ _ => pg_tup rfl (pgs_cons (pg_name (i := 4) sc_joined.nd rfl (.inl rfl) (.inr rfl)) (pgs_cons (pg_name (i := 5) sc_joined.nd rfl (.inl rfl) (.inr rfl)) pgs_nil))) (fun _ _ _ _ _ => pts_nil) (fun _ _ _ _ _ => pe_op op_or (pv 4) (pv 5)))))
    (pss_one (ps_ret (pv 2)))), ?_⟩
  refine q_asgF (K := K) (f_listL (d_var ⟨v, rfl, h0⟩)) fun p H1 np e1 hp => ?_
  refine AsKit.s_forLD (K := K) (H0 := H) (v := v1) (i := 1) (ds := ls.map nlD) rfl h1 e1 (fun j σ' H' => ∃ p x3, σ' = [some v, some v1, some (.ref p), x3, none, none] ∧ H p = none ∧ Ex H H' ∧ NewL K H' p ((joined r (ls.take j)).map natD)) ⟨p, none, rfl, np, e1, hp⟩ (fun j σ' H' ⟨_, _, _, _, e, _⟩ => e) (fun j d x σ' H' hj hx g => ?_) fun σ' H' g => ?_
  · obtain ⟨p', x3, rfl, n', e', hp'⟩ := g
    rw [List.getElem?_map] at hj
    cases hl : ls[j]? with
    | none => rw [hl] at hj; cases hj
    | some o =>
      rw [hl] at hj
      obtain rfl := Option.some.inj hj
      have a2 : At K [some v, some v1, some (.ref p'), some x, none, none] H' 2 (nlD (joined r (ls.take j))) := ⟨_, rfl, hp'.dp⟩
      have a3 : At K [some v, some v1, some (.ref p'), some x, none, none] H' 3 (nlD o) := ⟨_, rfl, hx⟩
      have jl := joined_le (ls.take j) r
      show tAsg _ (gName 2) _ [some v, some v1, some (.ref p'), some x, none, none] H'
      refine s_asgF (K := K) (f_lcG (K := K) (fun _ => true) orD (ds_cons (d_var a2) (ds_cons (d_var a3) ds_nil)) rfl rfl (by show ((joined r (ls.take j)).map natD).length ≤ 50000; rw [List.length_map]; omega) (fun y hy _ => ?_) (fun y hy => ?_)) fun p2 H2 n2 e2 h2 => ?_
      · rw [pairs_nats] at hy
        obtain ⟨z, _, rfl⟩ := List.mem_map.mp hy
        rfl
      · rw [pairs_nats] at hy
        obtain ⟨z, _, rfl⟩ := List.mem_map.mp hy
        intro x5 H5 e5 h5 k hk
        refine AsKit.g_two h5 fun va vb ha hb => hk _ rfl (fun _ _ Q q => q _ (Ex.refl _)) fun _ => ?_
        cases ha
        cases hb
        exact d_or_ (d_var ⟨_, rfl, .int _⟩) (d_var ⟨_, rfl, .int _⟩)
      · rw [join_or] at h2
        refine ⟨p2, some x, rfl, none_back e' n2, e'.trans e2, ?_⟩
        have et : ls.take (j + 1) = ls.take j ++ [o] := by rw [List.take_add_one, hl]; rfl
        rw [et]
        unfold joined
        rw [List.foldl_append]
        exact h2
  · obtain ⟨p', x3, rfl, n', e', hp'⟩ := g
    rw [List.length_map, List.take_length] at hp'
    refine ⟨_, rfl, q p' H' n' e' ?_⟩
    show NewL K H' p' ((joined (natsD (nlD r)) (listsD (llD ls))).map natD)
    rw [natsD_row, listsD_of]
    exact hp'
end
end K14

set_option maxHeartbeats 4000000
set_option autoImplicit false
/-! loose machines: their data, what they tell of texts, how they spread; until nothing is new. -/
namespace AsLoose
open PySem PySem.Spec PyProof.Rows L2 AsSort AsKit AsLot
abbrev sg (y : Str) : List Nat := y.cps.toList
abbrev llD (ls : List (List Nat)) : PyData := .list (ls.map nlD)
structure LM where
  y : Str
  rows : List (List Nat)
  free : List Nat
  yes : Nat
  deriving DecidableEq
abbrev LM.d (M : LM) : PyData := .tuple [.str M.y, llD M.rows, nlD M.free, natD M.yes]
structure LM.Ok (M : LM) : Prop where
  nd : (sg M.y).Nodup
  yl : M.y.length ≤ 1000
  ln : M.rows.length = (sg M.y).length
  rl : ∀ r ∈ M.rows, r.length = M.free.length
  rb : ∀ r ∈ M.rows, ∀ x ∈ r, x < 2 ^ M.free.length
  fb : ∀ x ∈ M.free, x < 2 ^ M.free.length
  n1 : 1 ≤ M.free.length
  n2 : M.free.length ≤ 2000
  rf : Refl M.free
  so : PyData.strOk M.y = true
def LM.row (M : LM) (c : Nat) : List Nat := M.rows.getD ((sg M.y).idxOf c) []
def LM.tw (M : LM) (w : List Nat) : List Nat := w.foldl (fun r c => thru r (M.row c)) M.free
theorem tw_snoc (M : LM) (w : List Nat) (c : Nat) : M.tw (w ++ [c]) = thru (M.tw w) (M.row c) := by
  unfold LM.tw
  rw [List.foldl_append]
  rfl
theorem LM.Ok.rowLt {M : LM} (h : M.Ok) (c : Nat) : ∀ x ∈ M.row c, x < 2 ^ M.free.length := fun x hx => by
  unfold LM.row at hx
  rw [List.getD_eq_getElem?_getD] at hx
  cases e : M.rows[(sg M.y).idxOf c]? with
  | none => rw [e] at hx; exact absurd hx List.not_mem_nil
  | some r =>
    rw [e] at hx
    exact h.rb r (List.mem_of_getElem? e) x hx
theorem LM.Ok.rowAt {M : LM} (h : M.Ok) {c : Nat} (hc : c ∈ sg M.y) : M.rows[(sg M.y).idxOf c]? = some (M.row c) := by
  have hl : (sg M.y).idxOf c < M.rows.length := by rw [h.ln]; exact List.idxOf_lt_length_of_mem hc
  unfold LM.row
  rw [List.getD_eq_getElem?_getD, List.getElem?_eq_getElem hl]
  rfl
theorem LM.Ok.rowLen {M : LM} (h : M.Ok) {c : Nat} (hc : c ∈ sg M.y) : (M.row c).length = M.free.length := h.rl _ (List.mem_of_getElem? (h.rowAt hc))
theorem tw_len (M : LM) (w : List Nat) : (M.tw w).length = M.free.length := by
  unfold LM.tw
  generalize M.free = f
  induction w generalizing f with
  | nil => rfl
  | cons c w ih => rw [List.foldl_cons, ih, thru_len]
theorem tw_lt {M : LM} (h : M.Ok) (w : List Nat) : ∀ x ∈ M.tw w, x < 2 ^ M.free.length := by
  have key : ∀ (w : List Nat) (f : List Nat), (∀ x ∈ f, x < 2 ^ M.free.length) → ∀ x ∈ w.foldl (fun r c => thru r (M.row c)) f, x < 2 ^ M.free.length := by
    intro w
    induction w with
    | nil => exact fun f hf => hf
    | cons c w ih => exact fun f hf => ih _ (thru_lt (h.rowLt c))
  exact key w M.free h.fb
def LM.told (M : LM) (ks : List (Str × Str)) (r : Str) : List (List Nat) := (ks.filter fun k => decide (k.2 = r)).map fun k => M.tw (sg k.1)
theorem told_mem {M : LM} (h : M.Ok) {ks : List (Str × Str)} {r : Str} {l : List Nat} (hl : l ∈ M.told ks r) : l.length = M.free.length ∧ ∀ x ∈ l, x < 2 ^ M.free.length := by
  obtain ⟨k, _, rfl⟩ := List.mem_map.mp hl
  exact ⟨tw_len M _, tw_lt h _⟩
def LM.fre (M : LM) (ks : List (Str × Str)) : List Nat := joined M.free (M.told ks "")
def LM.wide (M : LM) (ks : List (Str × Str)) : List Nat := thru (M.fre ks) (M.fre ks)
def LM.spr (M : LM) (ks : List (Str × Str)) : LM := ⟨M.y, ((sg M.y).zip M.rows).map fun p => thru (joined p.2 (M.told ks ⟨#[p.1]⟩)) (M.wide ks), M.wide ks, M.yes⟩
section
variable {M : LM} {ks : List (Str × Str)}
theorem fre_len (h : M.Ok) : (M.fre ks).length = M.free.length := joined_len rfl fun l hl => (told_mem h hl).1
theorem fre_lt (h : M.Ok) : ∀ x ∈ M.fre ks, x < 2 ^ M.free.length := joined_lt h.fb fun l hl => (told_mem h hl).2
theorem fre_sub (h : M.Ok) : Sub M.free (M.fre ks) := sub_joined rfl fun l hl => (told_mem h hl).1
theorem fre_refl (h : M.Ok) : Refl (M.fre ks) := h.rf.sub (fre_sub h)
theorem wide_len (h : M.Ok) : (M.wide ks).length = M.free.length := (thru_len _ _).trans (fre_len h)
theorem wide_lt (h : M.Ok) : ∀ x ∈ M.wide ks, x < 2 ^ M.free.length := thru_lt (fre_lt h)
theorem wide_sub (h : M.Ok) : Sub M.free (M.wide ks) := (fre_sub h).trans (sub_thru (fre_refl h) (by rw [fre_len h]; exact fre_lt h))
theorem wide_refl (h : M.Ok) : Refl (M.wide ks) := h.rf.sub (wide_sub h)
theorem spr_row (h : M.Ok) {c : Nat} {r : List Nat} (hr : r ∈ M.rows) : (thru (joined r (M.told ks ⟨#[c]⟩)) (M.wide ks)).length = M.free.length ∧ (∀ x ∈ thru (joined r (M.told ks ⟨#[c]⟩)) (M.wide ks), x < 2 ^ M.free.length) ∧ Sub r (thru (joined r (M.told ks ⟨#[c]⟩)) (M.wide ks)) := by
  have h1 : (joined r (M.told ks ⟨#[c]⟩)).length = M.free.length := joined_len (h.rl r hr) fun l hl => (told_mem h hl).1
  have h2 : ∀ x ∈ joined r (M.told ks ⟨#[c]⟩), x < 2 ^ M.free.length := joined_lt (h.rb r hr) fun l hl => (told_mem h hl).2
  refine ⟨(thru_len _ _).trans h1, thru_lt (wide_lt h), (sub_joined rfl fun l hl => ((told_mem h hl).1).trans (h.rl r hr).symm).trans (sub_thru (wide_refl h) (by rw [wide_len h]; exact h2))⟩
theorem spr_ok (h : M.Ok) : (M.spr ks).Ok := by
  have el : (M.spr ks).free.length = M.free.length := wide_len h
  have er : (M.spr ks).rows.length = M.rows.length := by
    show (((sg M.y).zip M.rows).map _).length = _
    rw [List.length_map, List.length_zip, h.ln, Nat.min_self]
  have mr : ∀ r ∈ (M.spr ks).rows, r.length = M.free.length ∧ ∀ x ∈ r, x < 2 ^ M.free.length := fun r hr => by
    obtain ⟨p, hp, rfl⟩ := List.mem_map.mp hr
    have z := spr_row (ks := ks) (c := p.1) h (List.of_mem_zip hp).2
    exact ⟨z.1, z.2.1⟩
  refine ⟨h.nd, h.yl, er.trans h.ln, fun r hr => (mr r hr).1.trans el.symm, fun r hr => ?_, ?_, ?_, ?_, wide_refl h, h.so⟩
  · rw [el]; exact (mr r hr).2
  · rw [el]; exact wide_lt h
  · rw [el]; exact h.n1
  · rw [el]; exact h.n2
/-- how much is still to come -/
def gaps (n : Nat) (rs : List (List Nat)) : Nat := (rs.map (gap n)).sum
inductive Subs : List (List Nat) → List (List Nat) → Prop
  | nil : Subs [] []
  | cons {a b : List Nat} {as bs : List (List Nat)} : Sub a b → Subs as bs → Subs (a :: as) (b :: bs)
theorem gaps_le {n : Nat} : ∀ {as bs : List (List Nat)}, Subs as bs → (∀ b ∈ bs, ∀ x ∈ b, x < 2 ^ n) → gaps n bs ≤ gaps n as ∧ (as ≠ bs → gaps n bs < gaps n as)
  | _, _, .nil, _ => ⟨Nat.le_refl _, fun h => (h rfl).elim⟩
  | a :: as, b :: bs, .cons h t, hb => by
    have g1 := gap_le (n := n) h
    have g2 := gaps_le t fun b hb2 => hb b (List.mem_cons_of_mem _ hb2)
    have e1 : gaps n (b :: bs) = gap n b + gaps n bs := by unfold gaps; rw [List.map_cons, List.sum_cons]
    have e2 : gaps n (a :: as) = gap n a + gaps n as := by unfold gaps; rw [List.map_cons, List.sum_cons]
    refine ⟨by have := g1.1; have := g2.1; omega, fun ne => ?_⟩
    by_cases hab : a = b
    · have : as ≠ bs := fun e => ne (by rw [hab, e])
      have := g2.2 this
      have := g1.1
      omega
    · have := g1.2 hab (hb b (List.mem_cons_self ..))
      have := g2.1
      omega
def LM.left (M : LM) : Nat := gap M.free.length M.free + gaps M.free.length M.rows
theorem spr_subs (h : M.Ok) : Subs M.rows (M.spr ks).rows := by
  have key : ∀ (cs : List Nat) (rs : List (List Nat)), cs.length = rs.length → (∀ r ∈ rs, r ∈ M.rows) → Subs rs ((cs.zip rs).map fun p => thru (joined p.2 (M.told ks ⟨#[p.1]⟩)) (M.wide ks)) := by
    intro cs
    induction cs with
    | nil => intro rs e _; cases rs with
      | nil => exact .nil
      | cons _ _ => cases e
    | cons c cs ih => intro rs e hr; cases rs with
      | nil => cases e
      | cons r rs => exact .cons (spr_row h (hr r (List.mem_cons_self ..))).2.2 (ih rs (Nat.succ.inj e) fun r h => hr r (List.mem_cons_of_mem _ h))
  exact key _ _ h.ln.symm fun r hr => hr
theorem left_lt (h : M.Ok) (ne : M.spr ks ≠ M) : (M.spr ks).left < M.left := by
  have el : (M.spr ks).free.length = M.free.length := wide_len h
  have ok := spr_ok (ks := ks) h
  have g1 := gap_le (n := M.free.length) (wide_sub (ks := ks) h)
  have g2 := gaps_le (n := M.free.length) (spr_subs (ks := ks) h) (by have := ok.rb; rw [el] at this; exact this)
  unfold LM.left
  rw [el]
  show gap _ (M.wide ks) + _ < _
  by_cases h1 : M.free = M.wide ks
  · have h2 : M.rows ≠ (M.spr ks).rows := fun e => ne (by
      show LM.mk M.y (M.spr ks).rows (M.wide ks) M.yes = M
      rw [← e, ← h1])
    have := g2.2 h2
    have := g1.1
    omega
  · have := g1.2 h1 (wide_lt h)
    have := g2.1
    omega
/-- spread k times -/
def LM.sprs (M : LM) (ks : List (Str × Str)) : Nat → LM
  | 0 => M
  | k + 1 => (M.sprs ks k).spr ks
theorem sprs_ok (h : M.Ok) : ∀ k, (M.sprs ks k).Ok
  | 0 => h
  | k + 1 => spr_ok (sprs_ok h k)
theorem sprs_same (M : LM) (ks : List (Str × Str)) : ∀ k, (M.sprs ks k).y = M.y ∧ (M.sprs ks k).yes = M.yes
  | 0 => ⟨rfl, rfl⟩
  | k + 1 => sprs_same M ks k
theorem sprs_len (h : M.Ok) : ∀ k, (M.sprs ks k).free.length = M.free.length
  | 0 => rfl
  | k + 1 => (wide_len (sprs_ok h k)).trans (sprs_len h k)
end
theorem nl_lay : ∀ a : List Nat, PyData.canLayAll0 (a.map natD) = true
  | [] => rfl
  | _ :: a => nl_lay a
theorem ll_lay : ∀ a : List (List Nat), PyData.canLayAll0 (a.map nlD) = true
  | [] => rfl
  | r :: a => by
    show (PyData.canLayAll0 (r.map natD) && PyData.canLayAll0 (a.map nlD)) = true
    rw [nl_lay r, ll_lay a]
    rfl
theorem nl_depth : ∀ a : List Nat, PyData.depthAll (a.map natD) = 0
  | [] => rfl
  | _ :: a => by
    show max 0 (PyData.depthAll (a.map natD)) = 0
    rw [nl_depth a]
    rfl
theorem ll_depth : ∀ a : List (List Nat), PyData.depthAll (a.map nlD) ≤ 1
  | [] => Nat.zero_le _
  | r :: a => by
    show max (PyData.depthAll (r.map natD) + 1) (PyData.depthAll (a.map nlD)) ≤ 1
    rw [nl_depth r]
    exact Nat.max_le.mpr ⟨Nat.le_refl _, ll_depth a⟩
theorem shaped_lm {M : LM} (h : PyData.strOk M.y = true) : SeqAt.shaped M.d = true := by
  have l1 : PyData.canLay0 M.d = true := by
    show (PyData.strOk M.y && (PyData.canLayAll0 (M.rows.map nlD) && (PyData.canLayAll0 (M.free.map natD) && (true && true)))) = true
    rw [h, ll_lay, nl_lay]
    rfl
  have l2 : M.d.depth ≤ 64 := by
    show max 0 (max (PyData.depthAll (M.rows.map nlD) + 1) (max (PyData.depthAll (M.free.map natD) + 1) (max 0 0))) + 1 ≤ 64
    have h1 := ll_depth M.rows
    rw [nl_depth]
    simp only [Nat.max_self, Nat.zero_max, Nat.max_zero]
    omega
  show (PyData.canLay0 M.d && decide (M.d.depth ≤ 64)) = true
  rw [l1, decide_eq_true l2]
  rfl
/-- what the machine says of a text -/
def LM.said (M : LM) (w : List Nat) : Bool := decide (0 < (M.tw w).getD 0 0 &&& M.yes)
/-- the machine of a text -/
def lineM (y t : Str) : LM := ⟨y, (sg y).map fun c => ((sg t).zipIdx.map fun p => if p.1 = c then 2 * 2 ^ p.2 else 0) ++ [0], (List.range (t.length + 1)).map fun i => 2 ^ i, 2 ^ t.length⟩
theorem line_len (y t : Str) : (lineM y t).free.length = t.length + 1 := by
  show ((List.range (t.length + 1)).map _).length = _
  rw [List.length_map, List.length_range]
theorem line_ok {y t : Str} (h1 : PyData.strOk y = true) (h2 : y.length ≤ 1000) (h3 : (sg y).Nodup) (h4 : t.length ≤ 300) : (lineM y t).Ok := by
  have el := line_len y t
  have lt := Array.length_toList (xs := t.cps)
  refine ⟨h3, h2, List.length_map .., fun r hr => ?_, fun r hr x hx => ?_, fun x hx => ?_, by omega, by omega, fun i x hi => ?_, h1⟩
  · obtain ⟨c, _, rfl⟩ := List.mem_map.mp hr
    rw [el, List.length_append, List.length_map, List.length_zipIdx]
    show (sg t).length + 1 = t.length + 1
    rw [show (sg t).length = t.length from lt]
  · obtain ⟨c, _, rfl⟩ := List.mem_map.mp hr
    rw [el]
    have p2 := Nat.pow_pos (n := t.length + 1) (show 0 < 2 by decide)
    rcases List.mem_append.mp hx with hx | hx
    · obtain ⟨p, hp, rfl⟩ := List.mem_map.mp hx
      split
      · have hlt : p.2 < t.length := by
          have h5 := List.mem_zipIdx_iff_getElem?.mp hp
          have := (List.getElem?_eq_some_iff.mp h5).1
          rw [show (sg t).length = t.length from lt] at this
          exact this
        rw [Nat.mul_comm, ← Nat.pow_succ]
        exact Nat.pow_lt_pow_right (by decide) (by omega)
      · exact p2
    · rw [List.mem_singleton.mp hx]
      exact p2
  · rw [el]
    obtain ⟨i, hi, rfl⟩ := List.mem_map.mp hx
    exact Nat.pow_lt_pow_right (by decide) (List.mem_range.mp hi)
  · have hi' : ((List.range (t.length + 1)).map fun i => 2 ^ i)[i]? = some x := hi
    rw [List.getElem?_map] at hi'
    cases e : (List.range (t.length + 1))[i]? with
    | none => rw [e] at hi'; cases hi'
    | some j =>
      rw [e] at hi'
      obtain rfl := Option.some.inj hi'
      obtain ⟨h5, h6⟩ := List.getElem?_eq_some_iff.mp e
      rw [List.getElem_range] at h6
      rw [← h6, Nat.testBit_two_pow_self]
/-- without kinds a text's machine stays as it is -/
theorem lotOr_id {n x : Nat} (h : x < 2 ^ n) : lotOr ((List.range n).map fun i => 2 ^ i) x = x := by
  refine Nat.eq_of_testBit_eq fun j => ?_
  refine bool_ext ?_
  rw [lotOr_bit]
  constructor
  · rintro ⟨i, r, h1, h2, h3⟩
    rw [List.getElem?_map] at h1
    cases e : (List.range n)[i]? with
    | none => rw [e] at h1; cases h1
    | some k =>
      rw [e] at h1
      obtain rfl := Option.some.inj h1
      obtain ⟨h5, h6⟩ := List.getElem?_eq_some_iff.mp e
      rw [List.getElem_range] at h6
      subst h6
      rw [Nat.testBit_two_pow, decide_eq_true_eq] at h3
      rw [← h3]
      exact h2
  · intro hj
    have hlt := bit_lt h hj
    exact ⟨j, 2 ^ j, by rw [List.getElem?_map, List.getElem?_range hlt]; rfl, hj, Nat.testBit_two_pow_self⟩
theorem thru_id {n : Nat} {r : List Nat} (h : ∀ x ∈ r, x < 2 ^ n) : thru r ((List.range n).map fun i => 2 ^ i) = r := by
  unfold thru
  exact (List.map_congr_left fun x hx => lotOr_id (h x hx)).trans (List.map_id' r)
theorem line_spr {y t : Str} (ok : (lineM y t).Ok) : (lineM y t).spr [] = lineM y t := by
  have el := line_len y t
  have f1 : (lineM y t).fre [] = (List.range (t.length + 1)).map fun i => 2 ^ i := rfl
  have f2 : (lineM y t).wide [] = (List.range (t.length + 1)).map fun i => 2 ^ i := by
    show thru ((lineM y t).fre []) ((lineM y t).fre []) = _
    rw [f1]
    have := ok.fb
    rw [el] at this
    exact thru_id this
  have f3 : ((sg y).zip (lineM y t).rows).map (fun p => thru (joined p.2 ((lineM y t).told [] ⟨#[p.1]⟩)) ((lineM y t).wide [])) = (lineM y t).rows := by
    rw [f2]
    have hb := ok.rb
    rw [el] at hb
    have hl := ok.ln
    generalize (lineM y t).rows = rs at hb hl ⊢
    have key : ∀ (cs : List Nat) (rs : List (List Nat)), rs.length = cs.length → (∀ r ∈ rs, ∀ x ∈ r, x < 2 ^ (t.length + 1)) → (cs.zip rs).map (fun p => thru (joined p.2 ((lineM y t).told [] ⟨#[p.1]⟩)) ((List.range (t.length + 1)).map fun i => 2 ^ i)) = rs := by
      intro cs
      induction cs with
      | nil => intro rs e _; rw [List.length_eq_zero_iff.mp e]; rfl
      | cons c cs ih => intro rs e h; cases rs with
        | nil => cases e
        | cons r rs =>
          rw [List.zip_cons_cons, List.map_cons, ih rs (Nat.succ.inj e) fun r h2 => h r (List.mem_cons_of_mem _ h2)]
          exact congrArg (· :: rs) (thru_id (h r (List.mem_cons_self ..)))
    exact key _ _ hl hb
  show LM.mk y (((sg y).zip (lineM y t).rows).map fun p => thru (joined p.2 ((lineM y t).told [] ⟨#[p.1]⟩)) ((lineM y t).wide [])) ((lineM y t).wide []) _ = LM.mk y (lineM y t).rows _ _
  rw [f3, f2]
  rfl
theorem line_sprs {y t : Str} (ok : (lineM y t).Ok) : ∀ k, (lineM y t).sprs [] k = lineM y t
  | 0 => rfl
  | k + 1 => by
    show ((lineM y t).sprs [] k).spr [] = _
    rw [line_sprs ok k, line_spr ok]
/-- it says no to the empty text, if its text is another -/
theorem line_no_empty {y t : Str} (h : 0 < t.length) : (lineM y t).said [] = false := by
  unfold LM.said
  refine decide_eq_false ?_
  show ¬ 0 < ((List.range (t.length + 1)).map fun i => 2 ^ i).getD 0 0 &&& 2 ^ t.length
  have e : ((List.range (t.length + 1)).map fun i => 2 ^ i).getD 0 0 = 1 := by
    rw [List.getD_eq_getElem?_getD, List.getElem?_map, List.getElem?_range (Nat.succ_pos _)]
    rfl
  rw [e]
  have : 1 &&& 2 ^ t.length = 0 := by
    refine Nat.eq_of_testBit_eq fun j => ?_
    rw [Nat.testBit_and, Nat.zero_testBit, Nat.testBit_two_pow]
    by_cases hj : t.length = j
    · have : (1 : Nat).testBit j = false := by
        rw [show (1 : Nat) = 2 ^ 0 from rfl, Nat.testBit_two_pow, decide_eq_false (by omega)]
      rw [this, Bool.false_and]
    · rw [decide_eq_false hj, Bool.and_false]
  omega
/-- the machine of the empty text says no to others -/
theorem line_only_empty {y : Str} {w : List Nat} (ok : (lineM y "").Ok) (h : w ≠ []) : (lineM y "").said w = false := by
  obtain ⟨u, c, rfl⟩ : ∃ u c, w = u ++ [c] := ⟨w.dropLast, w.getLast h, (List.dropLast_concat_getLast h).symm⟩
  unfold LM.said
  rw [tw_snoc]
  have hrow : ∀ x ∈ (lineM y "").row c, x = 0 := fun x hx => by
    unfold LM.row at hx
    rw [List.getD_eq_getElem?_getD] at hx
    cases e : (lineM y "").rows[(sg (lineM y "").y).idxOf c]? with
    | none => rw [e] at hx; exact absurd hx List.not_mem_nil
    | some r =>
      rw [e] at hx
      obtain ⟨c', _, er⟩ := List.mem_map.mp (List.mem_of_getElem? e)
      have : x ∈ ([0] : List Nat) := by rw [← er] at hx; exact hx
      exact List.mem_singleton.mp this
  have hz : ∀ x, lotOr ((lineM y "").row c) x = 0 := fun x => by
    refine Nat.eq_of_testBit_eq fun j => ?_
    rw [Nat.zero_testBit]
    refine Bool.eq_false_iff.mpr fun hj => ?_
    obtain ⟨i, r, h1, _, h3⟩ := (lotOr_bit _ _ _).mp hj
    rw [hrow r (List.mem_of_getElem? h1), Nat.zero_testBit] at h3
    cases h3
  have e : (thru ((lineM y "").tw u) ((lineM y "").row c)).getD 0 0 = 0 := by
    rw [List.getD_eq_getElem?_getD]
    unfold thru
    rw [List.getElem?_map]
    cases ((lineM y "").tw u)[0]? with
    | none => rfl
    | some x => exact hz x
  rw [e, Nat.zero_and]
  rfl
/-! equal machines -/
instance : PySem.W.Datum Nat where
  toD := natD
  plain _ := rfl
  eqv a b := by simp only [PyData.eqv]; rw [PySem.W.beq_decide]; exact decide_eq_decide.mpr Int.ofNat_inj
  depth := 0
  depth_le _ := Nat.le_refl _
theorem eqv_nl (a b : List Nat) : PyData.eqv (nlD a) (nlD b) = decide (a = b) := PySem.W.Datum.eqv a b
theorem eqv_ll (a b : List (List Nat)) : PyData.eqv (llD a) (llD b) = decide (a = b) := PySem.W.Datum.eqv a b
theorem eqv_st (a b : Str) : PyData.eqv (.str a) (.str b) = decide (a = b) := PySem.W.Datum.eqv a b
theorem eqv_nt (a b : Nat) : PyData.eqv (natD a) (natD b) = decide (a = b) := PySem.W.Datum.eqv a b
theorem eqv_lm (M N : LM) : PyData.eqv M.d N.d = decide (M = N) := by
  rw [PyData.eqv, PyData.eqvAll, PyData.eqvAll, PyData.eqvAll, PyData.eqvAll, PyData.eqvAll, eqv_ll, eqv_nl, eqv_st, eqv_nt]
  rw [Bool.eq_iff_iff]
  simp only [Bool.and_eq_true, decide_eq_true_eq]
  constructor
  · rintro ⟨h1, h2, h3, h4, _⟩
    cases M; cases N
    simp only at h1 h2 h3 h4
    subst h1 h2 h3 h4
    rfl
  · rintro rfl
    exact ⟨rfl, rfl, rfl, rfl, trivial⟩
end AsLoose

set_option maxHeartbeats 4000000
set_option autoImplicit false
/-! {key: True for x in a list for i in range(lo, hi)} as the dict of the texts. -/
namespace AsLcN
open PySem PySem.Spec PyProof.Rows L2 AsSort AsKit AsZipG
open Evl (Ex Ev EvT EvA)
section
variable {X : Cx}
theorem ps_setDc2 {i : Nat} {y : Str} {py : Pos} {kx vx t0 i0 t1 i1 : Expr} {scope : Scope} {own : List (Str × Nat)} {vs1 : List Nat} {pos spos : Pos} {wi wi1 : TI} {g g1 : TG} {tk tv : TE} (hc : X.calm = true) (hN : X.N.Nodup) (hy : X.N[i]? = some y) (hyl : X.env.scope.names.lookup y = some .local)
    (hsw : swapsWith (DcE kx vx t0 i0 t1 i1 scope pos) (some (.Name y py)) spos.line X.env = pure true) (hi : PI X t0 i0 wi) (ok : BlkOk X.N X.env.scope scope own) (hv : ∀ i ∈ vs1, i ∈ own.map (·.2))
    (hg : InBlk X scope fun Y => PG Y t0 g) (hi1 : InBlk X scope fun Y => PI Y t1 i1 wi1) (hg1 : InBlk X scope fun Y => PG Y t1 g1) (hk : InBlk X scope fun Y => PE Y kx tk) (he : InBlk X scope fun Y => PE Y vx tv)
    (hs : ∀ x, foldedSetIterable i0 X.env x = pure x := by intro _; rfl) (hs1 : ∀ env x, foldedSetIterable i1 env x = pure x := by intro _ _; rfl) :
    PS X (.Assign [.Name y py] (DcE kx vx t0 i0 t1 i1 scope pos) spos) (tAsg (tDc2 wi g wi1 g1 tk tv (own.map (·.2)) vs1) (gName i)) := by
  refine ⟨fun pins s σ H D I hw => ?_⟩
  rw [exec_Assign_Name_used _ _ _ _ hsw]
  apply wpAny_bind; apply wpAny_standAt; apply wpAny_bind
  show wpAny _ X.A (do let _ ← comprehension (DcE kx vx t0 i0 t1 i1 scope pos) scope X.env (firstIterPos [⟨t0, i0, [], 0⟩, ⟨t1, i1, [], 0⟩] pos) newDict false (eval i0 X.env) (some (assign (.Name y py) X.env))) _ _ s
  have hw : tDc2 wi g wi1 g1 tk tv (own.map (·.2)) vs1 σ H (fun x H1 => gName i x σ H1 D.nx) := hw
  refine wpAny_bind (thn (dc2_core (Qf := fun _ s' => SP X pins D .next s') hc hN I hi ok hv hg hi1 hg1 hk he hs hs1 hw fun L C s' m H' J q hn f => ?_) fun _ s' hq => wpAny_pure (wpAny_pure hq))
  show wpAny _ _ (assign (.Name y py) X.env (.ref L)) _ _ _
  refine wpAny_assign_Name (store_ok2 (v := V.ref L) J hN hy (.inl hyl) rfl (fun s2 J2 ⟨a, sb, ha⟩ => ?_) (.inr hyl))
  obtain ⟨f0, f1, f2, f3, f4, f5⟩ := f
  have ne : C ≠ a := ha.elim (fun z => by rw [z]; exact f1) fun z e => f4 y a z e.symm
  exact ⟨m, hn.sameBut sb ne, fun h3 sb3 => ⟨_, H', J2.turned (t' := s2.toks) (fun b o hb e => (sb3.2 b hb).trans e) f0 f1 f3 f4 f5, q⟩⟩
end
section
variable {K : PySem.W.Frag} {σ : L2.St} {H : Hp} {tl tk : TE} {ta : TA} {ds : List PyData}
theorem e_dc2R {j k : Nat} {vs vs1 : List Nat} {lo : Int} (n : PyData → Nat) (g : PyData → Nat → Str) (hvs : vs = [j, k]) (hvs1 : vs1 = [k]) (h : EvD K tl σ H (.list ds)) (hlo : 0 ≤ lo ∧ lo ≤ 1000) (hn : ∀ d ∈ ds, n d ≤ 30000) (hz : (ds.flatMap fun d => (List.range (n d)).map (g d)).length ≤ 50000)
    (hw : ∀ x, wipe ((wipe σ vs).set j (some x)) vs = wipe σ vs) (hw1 : ∀ x y, wipe ((wipe ((wipe σ vs).set j (some x)) vs1).set k (some y)) vs1 = wipe ((wipe σ vs).set j (some x)) vs1)
    (ha : ∀ d ∈ ds, ∀ x H1, Ex H H1 → Dp K H1 x d → EvDs K ta ((wipe σ vs).set j (some x)) H1 [.int lo, .int (lo + n d)])
    (ht : ∀ d ∈ ds, ∀ x H1 (i : Nat), i < n d → Ex H H1 → Dp K H1 x d → EvD K tk ((wipe ((wipe σ vs).set j (some x)) vs1).set k (some (.int (lo + i)))) H1 (.str (g d i)))
    (H1 : Hp) (a : Ex H H1) (Q : VK) (q : ∀ p H2, H1 p = none → Ex H1 H2 → H2 p = some (.dK (putsT (ds.flatMap fun d => (List.range (n d)).map (g d)))) → Q (.ref p) H2) :
    tDc2 (iList K tl) (gName j) (iRng2 ta) (gName k) tk (tC (.bl true)) vs vs1 σ H1 Q := h H1 a _ fun v H2 x hd => by
  cases hd with
  | lst hs hx =>
    rename_i p0 xs
    have ll : xs.length = ds.length := dpAll_len hx
    refine ⟨_, rfl, ⟨_, hs⟩, fun D hD => ⟨fun i m H' => m = xs.length - i ∧ i ≤ xs.length ∧ Ex H2 H' ∧ H' D = some (.dK (putsT ((ds.take i).flatMap fun d => (List.range (n d)).map (g d)))), ⟨_, rfl, Nat.zero_le _, Ex.new hD, upd_same⟩, ?_⟩⟩
    rintro i m H' ⟨rfl, hi, e2, hDi⟩
    have hsq : SqL K H' p0 xs := Evl.ex_l e2 hs
    by_cases hlt : i < xs.length
    · have hdi : ds[i]? = some ds[i] := List.getElem?_eq_getElem (by omega)
      have hmem : ds[i] ∈ ds := List.getElem_mem (by omega)
      have ek : ds.take (i + 1) = ds.take i ++ [ds[i]] := by rw [List.take_add_one, hdi]; simp
      have efl : (ds.take (i + 1)).flatMap (fun d => (List.range (n d)).map (g d)) = (ds.take i).flatMap (fun d => (List.range (n d)).map (g d)) ++ (List.range (n ds[i])).map (g ds[i]) := by rw [ek, List.flatMap_append, List.flatMap_singleton]
      have elen : ((ds.take i).flatMap fun d => (List.range (n d)).map (g d)).length + n ds[i] ≤ 50000 := by
        have e : ds = ds.take (i + 1) ++ ds.drop (i + 1) := (List.take_append_drop _ _).symm
        have l := congrArg (fun l : List PyData => (l.flatMap fun d => (List.range (n d)).map (g d)).length) e
        simp only [List.flatMap_append, List.length_append] at l
        rw [efl, List.length_append, List.length_map, List.length_range] at l
        omega
      obtain ⟨pre, epre⟩ : ∃ pre, pre = (ds.take i).flatMap fun d => (List.range (n d)).map (g d) := ⟨_, rfl⟩
      rw [← epre] at hDi efl elen
      refine .inr ⟨⟨xs, xs[i], hsq, List.getElem?_eq_getElem hlt⟩, fun G' => Ex H2 G' ∧ G' D = some (.dK (putsT (pre ++ (List.range (n ds[i])).map (g ds[i])))), fun G' hN => ⟨xs.length - (i + 1), by omega, rfl, by omega, hN.1, by rw [efl]; exact hN.2⟩, fun y G' hy => ?_⟩
      obtain ⟨e, hy⟩ := hy
      subst e
      have hyx := hy xs hsq
      have hdy : Dp K G' y ds[i] := dp_ex e2 (dpAll_get hx hyx hdi)
      have en := hn _ hmem
      refine ⟨hw y, ?_⟩
      refine ds_ev2 (ha ds[i] hmem y G' (a.trans (x.trans e2)) hdy) G' (Ex.refl _) _ fun H3 e3 => ⟨lo, lo + n ds[i], rfl, by omega, ?_⟩
      have el : (lo + (n ds[i] : Int) - lo).toNat = n ds[i] := by omega
      rw [el]
      refine ⟨fun b c H4 => c = n ds[i] - b ∧ b ≤ n ds[i] ∧ Ex H2 H4 ∧ H4 D = some (.dK (putsT (pre ++ ((List.range (n ds[i])).map (g ds[i])).take b))), ⟨_, rfl, Nat.zero_le _, e2.trans e3, by rw [List.take_zero, List.append_nil]; exact e3 _ _ hDi⟩, ?_⟩
      rintro b c H4 ⟨rfl, hb, e4, hD4⟩
      by_cases hlb : b < n ds[i]
      · refine .inr ⟨hlb, fun G5 => Ex H2 G5 ∧ G5 D = some (.dK (putsT (pre ++ ((List.range (n ds[i])).map (g ds[i])).take (b + 1)))), fun G5 hN => ⟨n ds[i] - (b + 1), by omega, rfl, by omega, hN⟩, fun z G5 hz5 => ?_⟩
        obtain ⟨e5, hz5⟩ := hz5
        subst e5 hz5
        refine ⟨hw1 y _, ?_⟩
        refine ht ds[i] hmem y G5 b hlb (a.trans (x.trans e4)) (dp_ex e4 (dpAll_get hx hyx hdi)) G5 (Ex.refl _) _ fun u H6 e6 hu => ?_
        cases hu
        have hD6 := e6 _ _ hD4
        have hl := putsT_len (pre ++ ((List.range (n ds[i])).map (g ds[i])).take b)
        rw [List.length_append, List.length_take, List.length_map, List.length_range] at hl
        refine ⟨_, .inr (g ds[i] b), rfl, hD6, Evl.sz_lt (by omega), Ex.mut (e4.trans e6) hD, ?_⟩
        have eb : ((List.range (n ds[i])).map (g ds[i]))[b]? = some (g ds[i] b) := by rw [List.getElem?_map, List.getElem?_range hlb]; rfl
        rw [upd_same, List.take_add_one, eb, Option.toList_some, ← List.append_assoc, putsT_snoc]
        rfl
      · have eb : b = n ds[i] := by omega
        refine .inl ⟨Nat.le_of_eq eb.symm, e4, ?_⟩
        rw [List.take_of_length_le (by rw [List.length_map, List.length_range]; exact Nat.le_of_eq eb.symm)] at hD4
        exact hD4
    · have e : i = xs.length := by omega
      subst e
      rw [ll, List.take_length] at hDi
      exact .inl ⟨⟨xs, hsq, Nat.le_refl _⟩, q D H' (none_back x hD) (x.trans e2) hDi⟩
theorem q_dc2R {D : Ends} {tz : TS} {i j k : Nat} {vs vs1 : List Nat} {lo : Int} (n : PyData → Nat) (g : PyData → Nat → Str) (hvs : vs = [j, k]) (hvs1 : vs1 = [k]) (h : EvD K tl σ H (.list ds)) (hlo : 0 ≤ lo ∧ lo ≤ 1000) (hn : ∀ d ∈ ds, n d ≤ 30000) (hz : (ds.flatMap fun d => (List.range (n d)).map (g d)).length ≤ 50000)
    (hw : ∀ x, wipe ((wipe σ vs).set j (some x)) vs = wipe σ vs) (hw1 : ∀ x y, wipe ((wipe ((wipe σ vs).set j (some x)) vs1).set k (some y)) vs1 = wipe ((wipe σ vs).set j (some x)) vs1)
    (ha : ∀ d ∈ ds, ∀ x H1, Ex H H1 → Dp K H1 x d → EvDs K ta ((wipe σ vs).set j (some x)) H1 [.int lo, .int (lo + n d)])
    (ht : ∀ d ∈ ds, ∀ x H1 (i : Nat), i < n d → Ex H H1 → Dp K H1 x d → EvD K tk ((wipe ((wipe σ vs).set j (some x)) vs1).set k (some (.int (lo + i)))) H1 (.str (g d i)))
    (q : ∀ p H2, H p = none → Ex H H2 → H2 p = some (.dK (putsT (ds.flatMap fun d => (List.range (n d)).map (g d)))) → tz D (σ.set i (some (.ref p))) H2) : tSeq (tAsg (tDc2 (iList K tl) (gName j) (iRng2 ta) (gName k) tk (tC (.bl true)) vs vs1) (gName i)) tz D σ H :=
  e_dc2R n g hvs hvs1 h hlo hn hz hw hw1 ha ht H (Ex.refl H) (fun x H1 => gName i x σ H1 fun σ2 H2 => tz D σ2 H2) q
end
end AsLcN

set_option maxHeartbeats 4000000
set_option autoImplicit false
/-! the beginnings of texts, shorter ones first. -/
namespace AsLoose
open PySem PySem.Spec PyProof.Rows L2 AsSort AsKit AsLot AsLcN
theorem put_own (kvs : Kvs) (t : Str) : ∃ kw ∈ putT kvs t, kw.1 = .inr t := by
  unfold putT putK
  split
  · rename_i h1
    obtain ⟨kv, h2, h3⟩ := List.any_eq_true.mp h1
    have e := of_decide_eq_true h3
    exact ⟨(kv.1, .bl true), List.mem_map.mpr ⟨kv, h2, by rw [if_pos e]⟩, e⟩
  · exact ⟨(.inr t, .bl true), List.mem_append_right _ (List.mem_singleton.mpr rfl), rfl⟩
theorem put_up (kvs : Kvs) (t : Str) : ∀ kv ∈ kvs, ∃ kw ∈ putT kvs t, kw.1 = kv.1 := fun kv hkv => by
  unfold putT putK
  split
  · by_cases e : kv.1 = .inr t
    · exact ⟨(kv.1, .bl true), List.mem_map.mpr ⟨kv, hkv, by rw [if_pos e]⟩, rfl⟩
    · exact ⟨kv, List.mem_map.mpr ⟨kv, hkv, by rw [if_neg e]⟩, rfl⟩
  · exact ⟨kv, List.mem_append_left _ hkv, rfl⟩
theorem puts_hold : ∀ (ts : List Str) (kvs : Kvs) (s : Str), (s ∈ ts ∨ ∃ kv ∈ kvs, kv.1 = .inr s) → ∃ kv ∈ ts.foldl putT kvs, kv.1 = .inr s
  | [], _, _, h => h.elim (fun z => nomatch z) id
  | t :: ts, kvs, s, h => puts_hold ts (putT kvs t) s (by
    rcases h with h | ⟨kv, h1, h2⟩
    · rcases List.mem_cons.mp h with rfl | h
      · exact .inr (put_own kvs _)
      · exact .inl h
    · obtain ⟨kw, a, b⟩ := put_up kvs t kv h1
      exact .inr ⟨kw, a, b.trans h2⟩)
theorem strs_iff {ss : List Str} {s : Str} : s ∈ strsOf (putsT ss) ↔ s ∈ ss := ⟨fun h => strs_in (putsT_in ss) s h, fun h => by
  obtain ⟨kv, a, b⟩ := puts_hold ss [] s (.inl h)
  exact List.mem_map.mpr ⟨kv, a, by rw [b]; rfl⟩⟩
/-- a text's beginnings, the empty one left out -/
def prefT (s : Str) (i : Nat) : Str := cutS s none (some (1 + (i : Int)))
def prefs (s : Str) : List Str := (List.range s.length).map (prefT s)
theorem sg_pref (s : Str) (i : Nat) : sg (prefT s i) = (sg s).take (i + 1) := by
  have := cut_to s (i + 1)
  unfold prefT
  rw [show (1 + (i : Int)) = ((i + 1 : Nat) : Int) by omega]
  exact this
theorem sg_inj {s t : Str} (h : sg s = sg t) : s = t := by
  cases s with
  | mk a =>
    cases t with
    | mk b =>
      have : a = b := Array.ext' h
      rw [this]
theorem sg_len (s : Str) : (sg s).length = s.length := Array.length_toList
theorem prefs_mem {s p : Str} : p ∈ prefs s ↔ ∃ i, i < s.length ∧ sg p = (sg s).take (i + 1) := by
  unfold prefs
  rw [List.mem_map]
  constructor
  · rintro ⟨i, hi, rfl⟩
    exact ⟨i, List.mem_range.mp hi, sg_pref s i⟩
  · rintro ⟨i, hi, e⟩
    exact ⟨i, List.mem_range.mpr hi, sg_inj ((sg_pref s i).trans e.symm)⟩
def begL (ts : List Str) : List Str := strsOf (putsT (ts.flatMap prefs))
def leLen (a b : Str) : Bool := decide ((a.length : Int) ≤ (b.length : Int))
def begS (ts : List Str) : List Str := (begL ts).mergeSort leLen
theorem byLen_strs (ss : List Str) : byLen false (ss.map PyData.str) = (ss.mergeSort leLen).map PyData.str := by
  unfold byLen
  rw [List.map_mergeSort (r := leLen) (s := PySem.W.dataLe false fun d => natD (lenN d))]
  intro a _ b _
  have := congrFun (congrFun (PySem.W.dataLe_int (β := PyData) fun d => (lenN d : Int)) (.str a)) (.str b)
  exact this.symm
theorem begS_mem {ts : List Str} {p : Str} : p ∈ begS ts ↔ ∃ t ∈ ts, ∃ i, i < t.length ∧ sg p = (sg t).take (i + 1) := by
  unfold begS
  rw [(List.mergeSort_perm _ _).mem_iff]
  unfold begL
  rw [strs_iff, List.mem_flatMap]
  simp only [prefs_mem]
theorem begS_sorted (ts : List Str) : (begS ts).Pairwise fun a b => a.length ≤ b.length := by
  have := List.pairwise_mergeSort (le := leLen) (fun a b c h1 h2 => by
    have := of_decide_eq_true h1; have := of_decide_eq_true h2
    exact decide_eq_true (by omega)) (fun a b => by
    unfold leLen
    rw [Bool.or_eq_true, decide_eq_true_eq, decide_eq_true_eq]
    omega) (begL ts)
  exact this.imp fun {a b} h => by have := of_decide_eq_true h; omega
theorem begS_len (ts : List Str) : (begS ts).length ≤ (ts.flatMap prefs).length := by
  unfold begS begL
  rw [List.length_mergeSort]
  unfold strsOf
  rw [List.length_map]
  exact putsT_len _
theorem prefs_total : ∀ (ts : List Str) (m : Nat), (∀ t ∈ ts, t.length ≤ m) → (ts.flatMap prefs).length ≤ ts.length * m
  | [], m, _ => Nat.zero_le _
  | t :: ts, m, h => by
    have h1 := prefs_total ts m fun u hu => h u (List.mem_cons_of_mem _ hu)
    have h2 := h t (List.mem_cons_self ..)
    rw [List.flatMap_cons, List.length_append, List.length_cons, Nat.add_mul]
    have : (prefs t).length = t.length := by unfold prefs; rw [List.length_map, List.length_range]
    omega
/-- a text ahead of its last letter stands ahead of it -/
theorem begS_ahead {ts : List Str} {j : Nat} {p : Str} (h : (begS ts)[j]? = some p) : ∃ w c, sg p = w ++ [c] ∧ (w = [] ∨ ∃ i q, i < j ∧ (begS ts)[i]? = some q ∧ sg q = w) := by
  obtain ⟨t, ht, i, hi, e⟩ := begS_mem.mp (List.mem_of_getElem? h)
  have hl : i < (sg t).length := by rw [sg_len]; exact hi
  have et : (sg t).take (i + 1) = (sg t).take i ++ [(sg t)[i]] := by rw [List.take_add_one, List.getElem?_eq_getElem hl]; rfl
  refine ⟨(sg t).take i, (sg t)[i], e.trans et, ?_⟩
  cases i with
  | zero => exact .inl rfl
  | succ i =>
    refine .inr ?_
    obtain ⟨q, hq⟩ : ∃ q : Str, sg q = (sg t).take (i + 1) := ⟨⟨((sg t).take (i + 1)).toArray⟩, rfl⟩
    have hm : q ∈ begS ts := begS_mem.mpr ⟨t, ht, i, by omega, hq⟩
    obtain ⟨k, hk⟩ := List.mem_iff_getElem?.mp hm
    refine ⟨k, q, ?_, hk, hq⟩
    have lq : q.length = i + 1 := by rw [← sg_len, hq, List.length_take]; omega
    have lp : p.length = i + 2 := by rw [← sg_len, e, List.length_take]; omega
    refine Nat.lt_of_not_le fun hjk => ?_
    have hs := begS_sorted ts
    obtain ⟨h1, h2⟩ := List.getElem?_eq_some_iff.mp h
    obtain ⟨h3, h4⟩ := List.getElem?_eq_some_iff.mp hk
    rcases Nat.lt_or_ge j k with hlt | hge
    · have := List.pairwise_iff_getElem.mp hs j k h1 h3 hlt
      rw [h2, h4] at this
      omega
    · have ejk : j = k := by omega
      subst ejk
      rw [h] at hk
      cases hk
      omega
end AsLoose

set_option maxHeartbeats 4000000
set_option autoImplicit false
/-! data behind a change of what is neither list nor tuple. -/
namespace AsKit
open PySem PySem.Spec PyProof.Rows L2 AsSort
open Evl (Ex Ev EvT EvA)
/-- lists and tuples stay -/
def Sqs (K : PySem.W.Frag) (G G' : Hp) : Prop := ∀ a xs, (SqL K G a xs → SqL K G' a xs) ∧ (SqT K G a xs → SqT K G' a xs)
theorem sqs_rd {K : PySem.W.Frag} {G G' : Hp} (h : ∀ a o, (∃ xs, o = .lst xs ∨ o = .tup xs) → Rd G a o → Rd G' a o) : Sqs K G G' := fun a xs => ⟨fun q => q.elim (fun z => .inl (h a _ ⟨xs, .inl rfl⟩ z)) fun z => .inr z, fun q => q.elim (fun z => .inl (h a _ ⟨xs, .inr rfl⟩ z)) fun z => .inr z⟩
theorem sqs_ex {K : PySem.W.Frag} {G G' : Hp} (e : Ex G G') : Sqs K G G' := fun a xs => ⟨Evl.ex_l e, Evl.ex_t e⟩
theorem Sqs.trans {K : PySem.W.Frag} {G G' G'' : Hp} (a : Sqs K G G') (b : Sqs K G' G'') : Sqs K G G'' := fun x xs => ⟨fun h => (b x xs).1 ((a x xs).1 h), fun h => (b x xs).2 ((a x xs).2 h)⟩
/-- all but d stays, and d is no list, no tuple, nothing locked -/
theorem sqs_but {K : PySem.W.Frag} {G G' : Hp} {d : Addr} {u : HO} (hd : G d = some u) (n : ∀ xs, u ≠ .lst xs ∧ u ≠ .tup xs) (n2 : ∀ o w, u ≠ .frz o w) (k : ∀ b o, b ≠ d → G b = some o → G' b = some o) : Sqs K G G' := sqs_rd fun a o ho r => by
  have ne : ∀ w, G a = some w → (w = o ∨ ∃ f, w = .frz f o) → a ≠ d := fun w hw h e => by
    rw [e, hd] at hw
    cases hw
    rcases h with h | ⟨f, h⟩
    · obtain ⟨xs, z | z⟩ := ho
      · exact (n xs).1 (h.trans z)
      · exact (n xs).2 (h.trans z)
    · exact n2 _ _ h
  rcases r with r | ⟨f, r⟩
  · exact .inl (k _ _ (ne _ r (.inl rfl)) r)
  · exact .inr ⟨f, k _ _ (ne _ r (.inr ⟨f, rfl⟩)) r⟩
theorem sqs_dK {K : PySem.W.Frag} {G G' : Hp} {d : Addr} {kvs : List (Key × V)} (hd : G d = some (.dK kvs)) (k : ∀ b o, b ≠ d → G b = some o → G' b = some o) : Sqs K G G' := sqs_but hd (fun _ => ⟨(fun z => nomatch z), (fun z => nomatch z)⟩) (fun _ _ z => nomatch z) k
theorem sqs_dT {K : PySem.W.Frag} {G G' : Hp} {d : Addr} {kvs : List (List Key × V)} (hd : G d = some (.dT kvs)) (k : ∀ b o, b ≠ d → G b = some o → G' b = some o) : Sqs K G G' := sqs_but hd (fun _ => ⟨(fun z => nomatch z), (fun z => nomatch z)⟩) (fun _ _ z => nomatch z) k
mutual
theorem dp_sqs {K : PySem.W.Frag} {G G' : Hp} (e : Sqs K G G') : ∀ {v : V} {d : PyData}, Dp K G v d → Dp K G' v d
  | _, _, .non => .non
  | _, _, .bl b => .bl b
  | _, _, .int i => .int i
  | _, _, .str x => .str x
  | _, _, .lst a b => .lst ((e _ _).1 a) (dpAll_sqs e b)
  | _, _, .tup a b => .tup ((e _ _).2 a) (dpAll_sqs e b)
theorem dpAll_sqs {K : PySem.W.Frag} {G G' : Hp} (e : Sqs K G G') : ∀ {vs : List V} {ds : List PyData}, DpAll K G vs ds → DpAll K G' vs ds
  | _, _, .nil => .nil
  | _, _, .cons a b => .cons (dp_sqs e a) (dpAll_sqs e b)
end
theorem g_four {K : PySem.W.Frag} {σ : L2.St} {H : Hp} {i j l m : Nat} {a b c d : PyData} {x : V} {k : L2.St → Hp → Prop} (hd : Dp K H x (.tuple [a, b, c, d])) (h : ∀ va vb vc vd, Dp K H va a → Dp K H vb b → Dp K H vc c → Dp K H vd d → k ((((σ.set i (some va)).set j (some vb)).set l (some vc)).set m (some vd)) H) :
    gTup K 4 (gCons (gName i) (gCons (gName j) (gCons (gName l) (gCons (gName m) gNil)))) x σ H k := by
  cases hd with
  | tup hs hx =>
    obtain ⟨va, vb, vc, vd, rfl, h1, h2, h3, h4⟩ := dp4 hx
    exact ⟨_, _, rfl, hs, rfl, _, _, rfl, _, _, rfl, _, _, rfl, _, _, rfl, rfl, h _ _ _ _ h1 h2 h3 h4⟩
end AsKit

set_option maxHeartbeats 4000000
set_option autoImplicit false
/-! beginnings, rows of texts. -/
namespace K14
open PySem PySem.Spec PyProof.Rows L2 AsSort AsKit AsToo AsObj AsLot AsZipG AsLcN AsLoose
open Evl (Ex Ev EvT EvA)
abbrev sBegin : Stmt := top 45
abbrev sRowsOf : Stmt := top 48
def strOfD : PyData → Str
  | .str s => s
  | _ => ""
def strsD : PyData → List Str
  | .list ds => ds.map strOfD
  | _ => []
abbrev slD (ts : List Str) : PyData := .list (ts.map PyData.str)
theorem strsD_of (ts : List Str) : strsD (slD ts) = ts := by
  show (ts.map PyData.str).map strOfD = ts
  rw [List.map_map]
  exact List.map_id _
section
variable {P : Program} {w : World} {K : PySem.W.Frag} {mg : Str → Option Value} {base : Heap} {C : Addr}
abbrev nBegin : List Str := ["texts", "found", "text", "end"]
theorem sc_begin : FnScope nBegin ["texts"] (defScope sBegin) := ⟨rfl, rfl, rfl, by decide +kernel, rfl, by decide +kernel, by decide +kernel⟩
def TxsOk (ts : List Str) : Prop := ts.length ≤ 100 ∧ ∀ t ∈ ts, t.length ≤ 300
abbrev spBegin (K : PySem.W.Frag) : Sp := spP K (fun ds => ∃ ts, ds = [slD ts] ∧ TxsOk ts) (one fun d => slD (begS (strsD d)))
theorem c_begin (D : Df K mg "beginnings" sBegin) (hb : Bl mg) : Cl P w K mg base 1 "beginnings" (spBegin K) [] := by
  refine cl_of D sc_begin (len_sp fun ds ⟨t, h, _⟩ => by rw [h]; rfl) (fun _ _ _ _ _ _ us hl => match us, hl with | [_], _ => rfl) fun f cdv A outer s H vs Q E hr h => ?_
  obtain ⟨ds, hd, ⟨ts, rfl, htl, hlen⟩, q⟩ := h
  obtain ⟨v, rfl, h0⟩ := dp1 hd
  have hu : (A.deeper (envOfC "beginnings" (defScope sBegin) s.heap.objs.size f cdv)).units + 10 < cLine := by have := hr.un; omega
  refine ⟨_, pss_cons (ps_setDc2 (i := 1) (own := [("text", 2), ("end", 3)]) (vs1 := [3]) rfl sc_begin.nd rfl rfl (sw_dict rfl rfl rfl (by decide +kernel)) (pi_list (pv 0)) (blkOk_by (N := nBegin) (sc := defScope sBegin) (own := [("text", 2), ("end", 3)]) (by decide +kernel)) (by decide)
      (fun _ _ _ _ _ => pg_name (i := 2) sc_begin.nd rfl (.inl rfl)) (fun _ _ _ _ _ => pi_range2 (by rfl) (hb _ (by decide +kernel)) (pa_cons pe_int (pa_cons (pe_op op_add (pe_lenS hb (pv 2)) pe_int) pa_nil))) (fun _ _ _ _ _ => pg_name (i := 3) sc_begin.nd rfl (.inl rfl))
      (fun _ _ _ _ _ => pe_slice sl_str (pv 2) po_none (po_some (pv 3))) (fun _ _ _ _ _ => pe_bl))
    (pss_one (ps_ret (pe_sortLen (by rfl) (hb _ (by decide +kernel)) (by rfl) (hb _ (by decide +kernel)) hu (pa_cons (pe_callTy (call_list_dK rfl) (by rfl) (hb _ (by decide +kernel)) (by decide +kernel) (pa_cons (pv 1) pa_nil)) pa_nil)))), ?_⟩
  have hfl : ((ts.map PyData.str).flatMap fun d => (List.range (strOfD d).length).map (prefT (strOfD d))) = ts.flatMap prefs := by
    rw [List.flatMap_map]
    rfl
  have hz : (ts.flatMap prefs).length ≤ 30000 := by
    have h1 := prefs_total ts 300 hlen
    have h2 : ts.length * 300 ≤ 100 * 300 := Nat.mul_le_mul_right _ htl
    omega
  refine q_dc2R (K := K) (σ := [some v, none, none, none]) (i := 1) (j := 2) (k := 3) (lo := 1) (fun d => (strOfD d).length) (fun d i => prefT (strOfD d) i) rfl rfl (d_var (i := 0) ⟨v, rfl, h0⟩) (by decide) (fun d hd => ?_) (by rw [hfl]; omega) (fun _ => rfl) (fun _ _ => rfl) (fun d hd x H1 e1 hx => ?_) (fun d hd x H1 i hi e1 hx => ?_) fun p H2 np e2 hp => ?_
  · obtain ⟨t, ht, rfl⟩ := List.mem_map.mp hd
    have := hlen t ht
    show t.length ≤ 30000
    omega
  · obtain ⟨t, ht, rfl⟩ := List.mem_map.mp hd
    cases hx
    have := hlen t ht
    refine ds_cons d_int (ds_cons (d_eqTo (d_arI (d_lenS (d_var ⟨_, rfl, .str t⟩) (by omega)) (d_int (i := 1))) ?_) ds_nil)
    show PyData.int ((t.length : Int) + 1) = .int (1 + (t.length : Int))
    rw [Int.add_comm]
  · obtain ⟨t, ht, rfl⟩ := List.mem_map.mp hd
    cases hx
    have ht3 := hlen t ht
    exact d_slS (d_var ⟨_, rfl, .str t⟩) p_none (p_some (d_var ⟨_, rfl, .int _⟩)) (by show t.length ≤ 100000; omega)
  · rw [hfl] at hp
    have hk := putsT_in (ts.flatMap prefs)
    refine AsKit.s_ret (K := K) (d_sortLen (rev := false) (ds_cons (d_listD (i := 1) rfl hp hk) ds_nil) fun d hd => ?_) fun u H3 e3 hu => q u H3 (e2.trans e3) ?_
    · obtain ⟨z, hz2, rfl⟩ := List.mem_map.mp hd
      obtain ⟨t, ht, hzt⟩ := List.mem_flatMap.mp (strs_in hk z hz2)
      obtain ⟨i, hi, e⟩ := prefs_mem.mp hzt
      have l1 := congrArg List.length e
      rw [sg_len, List.length_take, sg_len] at l1
      have := hlen t ht
      show z.length ≤ 100000
      omega
    · rw [byLen_strs] at hu
      show Dp K H3 u (slD (begS (strsD (slD ts))))
      rw [strsD_of]
      exact hu
/-- a dict that tells what leads where -/
def ToldAt (K : PySem.W.Frag) (M : LM) (bs : List Str) (H : Hp) (d : Addr) : Prop := ∃ kvs, H d = some (.dK kvs) ∧ ∀ s : Str, (s = "" ∨ s ∈ bs) → ∃ v, valV kvs (.inr s) = some v ∧ Dp K H v (nlD (M.tw (sg s)))
theorem ToldAt.ex {M : LM} {bs : List Str} {H H' : Hp} {d : Addr} (h : ToldAt K M bs H d) (e : Ex H H') : ToldAt K M bs H' d := let ⟨kvs, a, b⟩ := h; ⟨kvs, e _ _ a, fun s hs => let ⟨v, c, f⟩ := b s hs; ⟨v, c, dp_ex e f⟩⟩
theorem d_minus1 {σ : L2.St} {H : Hp} : EvD K (tUn (rU fun i => .int (-i)) (tC (.int 1))) σ H (.int (-1)) := fun G _ Q q => ⟨1, rfl, q _ G (Ex.refl G) (.int _)⟩
/-- d[s], s a text -/
theorem d_dgetS {σ : L2.St} {H : Hp} {i : Nat} {d : Addr} {kvs : Kvs} {ty : TE} {z : Str} {v : V} {e : PyData} (hσ : σ[i]? = some (some (.ref d))) (hd : H d = some (.dK kvs)) (hy : EvD K ty σ H (.str z)) (hv : valV kvs (.inr z) = some v) (he : Dp K H v e) : EvD K (tDGet (tVar i) ty) σ H e := fun H1 a Q q =>
  ⟨_, hσ, hy H1 a _ fun y H2 x hz => by
    cases hz
    exact ⟨d, v, rfl, by rw [← hv]; exact DGet.k (k := .inr z) (x _ _ (a _ _ hd)), q v H2 x (dp_ex (a.trans x) he)⟩⟩
theorem sg_init {t : Str} {w : List Nat} {c : Nat} (h : sg t = w ++ [c]) : sg (cutS t none (some (-1))) = w := by
  have hl : t.length = w.length + 1 := by rw [← sg_len, h, List.length_append]; rfl
  have := cut_tl t none (some (-1))
  refine this.trans ?_
  show ((sg t).drop (HT.sIx t.length 0 none)).take (HT.sIx t.length t.length (some (-1)) - HT.sIx t.length 0 none) = w
  rw [HT.sIx_none]
  have e : HT.sIx t.length t.length (some (-1)) = w.length := by
    show (if (-1 : Int) < 0 then ((-1 : Int) + (t.length : Int)).toNat else min (-1 : Int).toNat t.length) = _
    rw [if_pos (by decide), hl]
    omega
  rw [e, h, List.drop_zero, Nat.sub_zero, List.take_left]
abbrev nRowsOf : List Str := ["machine", "texts", "letters", "rows", "free", "_", "found", "text"]
theorem sc_rowsof : FnScope nRowsOf ["machine", "texts"] (defScope sRowsOf) := ⟨rfl, rfl, rfl, by decide +kernel, rfl, by decide +kernel, by decide +kernel⟩
def spRowsOf (K : PySem.W.Frag) : Sp := fun vs H Q _ => ∃ (M : LM) (ts : List Str), DpAll K H vs [M.d, slD ts] ∧ M.Ok ∧ TxsOk ts ∧ (∀ t ∈ ts, ∀ c ∈ sg t, c ∈ sg M.y) ∧ ∀ d H', H d = none → Ex H H' → ToldAt K M (begS ts) H' d → Q (.ref d) H'
theorem c_rowsof (D : Df K mg "rows_of_texts" sRowsOf) (hb : Bl mg) (C1 : Cl P w K mg base 1 "beginnings" (spBegin K) []) (C2 : Cl P w K mg base 3 "rows_through" (spThru K) []) : Cl P w K mg base 4 "rows_of_texts" (spRowsOf K) [] := by
  refine cl_of D sc_rowsof (fun vs H Q E ⟨M, ts, h, _⟩ => dpAll_len h) (fun _ _ _ _ _ _ us hl => match us, hl with | [_, _], _ => rfl) fun f cdv A outer s H vs Q E hr h => ?_
  obtain ⟨M, ts, hd, ok, tok, hin, q⟩ := h
  obtain ⟨v, v1, rfl, h0, h1⟩ := dp2 hd
  have hu : (A.deeper (envOfC "rows_of_texts" (defScope sRowsOf) s.heap.objs.size f cdv)).units + 1 < cLine := by have := hr.un; omega
  refine ⟨_, pss_cons (ps_asg (pv 0) (pg_tup rfl (pgs_cons (pg_name (i := 2) sc_rowsof.nd rfl (.inl rfl)) (pgs_cons (pg_name (i := 3) sc_rowsof.nd rfl (.inl rfl)) (pgs_cons (pg_name (i := 4) sc_rowsof.nd rfl (.inl rfl)) (pgs_cons (pg_name (i := 5) sc_rowsof.nd rfl (.inl rfl)) pgs_nil))))))
    (pss_cons (ps_set (i := 6) sc_rowsof.nd rfl (.inl rfl) (pe_disp (pps_cons pe_str (pv 4) pps_nil) rfl rfl (by simp) (by decide)))
    (pss_cons (ps_for PassesOwn.never rfl (pi_list (C8.pe_c C1 hr (by decide) (by rfl) (pa_cons (pv 1) pa_nil))) (pg_name (i := 7) sc_rowsof.nd rfl (.inl rfl))
      (pss_one (ps_dput hu (pv 6) (pv 7) (C8.pe_c C2 hr (by decide) (by rfl) (pa_cons (pe_dget hu (pv 6) (pe_slice sl_str (pv 7) po_none (po_some (pe_un un_neg pe_int))) (fun _ _ => rfl)) (pa_cons (pe_ix (r := rIxL K) ix_list (pv 3) (pe_index rfl (pv 2) (pe_ix (r := rIxS) ix_str (pv 7) (pe_un un_neg pe_int) (fun _ _ => rfl))) (fun _ _ => rfl)) pa_nil))) rfl)))
    (pss_one (ps_ret (pv 6))))), ?_⟩
  refine ⟨v, rfl, g_four h0 fun va vb vc vd ha hb2 hc hd2 => ?_⟩
  cases ha
  refine fun d nd => ⟨vc, rfl, upd_same, [(.inr "", vc)], rfl, (by show 1 ≤ 15; decide), ?_⟩
  rw [upd_upd]
  obtain ⟨H1, eH1⟩ : ∃ H1, H1 = upd H d (.dK (mergeK [] [(.inr "", vc)])) := ⟨_, rfl⟩
  rw [← eH1]
  have e1 : Ex H H1 := by rw [eH1]; exact Ex.new nd
  have hd1 : H1 d = some (.dK (mergeK [] [(.inr "", vc)])) := by rw [eH1, upd_same]
  obtain ⟨σ, eσ⟩ : ∃ σ : L2.St, σ = [some v, some v1, some (.str M.y), some vb, some vc, some vd, some (.ref d), none] := ⟨_, rfl⟩
  dsimp only [gName]
  show tSeq _ _ _ [some v, some v1, some (.str M.y), some vb, some vc, some vd, some (.ref d), none] H1
  rw [← eσ]
  have hc1 := d_call (K := K) (E := C8.E0) (H := H1) (σ := σ) (ds_cons (d_var (i := 1) ⟨v1, by rw [eσ]; rfl, dp_ex e1 h1⟩) ds_nil) (pre := fun ds => ∃ ts, ds = [slD ts] ∧ TxsOk ts) (g := one fun d => slD (begS (strsD d))) ⟨ts, rfl, tok⟩
  refine hc1 H1 (Ex.refl _) _ fun u H2 e2 hu2 => ?_
  have hu2 : Dp K H2 u (slD (begS ts)) := by
    have z : Dp K H2 u (slD (begS (strsD (slD ts)))) := hu2
    rwa [strsD_of] at z
  cases hu2 with
  | lst hs hx =>
  rename_i p0 xs
  have xl : xs.length = (begS ts).length := by rw [dpAll_len hx]; exact List.length_map ..
  have hd2' := e2 _ _ hd1
  refine ⟨p0, rfl, ⟨xs, hs⟩, ?_⟩
  refine for_list (xs := xs) (fun j σ' H' => ∃ x7 kvs, σ' = [some v, some v1, some (.str M.y), some vb, some vc, some vd, some (.ref d), x7] ∧ (∀ b o, b ≠ d → H2 b = some o → H' b = some o) ∧ H' d = some (.dK kvs) ∧ kvs.length ≤ j + 1 ∧ ∀ s : Str, (s = "" ∨ s ∈ (begS ts).take j) → ∃ v, valV kvs (.inr s) = some v ∧ Dp K H' v (nlD (M.tw (sg s)))) ?_ (fun j σ' H' _ g => ?_) (fun j x σ' H' hj g => ?_) fun σ' H' g => ?_
  · refine ⟨none, _, eσ, fun b o _ h => h, hd2', by show 1 ≤ 1; decide, fun z hz => ?_⟩
    rcases hz with rfl | hz
    · exact ⟨vc, by show valV (putK ([] : Kvs) (.inr "" : Key) vc) (.inr "" : Key) = some vc; rw [valV_put, if_pos rfl], dp_ex (e1.trans e2) hc⟩
    · exact absurd hz List.not_mem_nil
  · obtain ⟨_, _, _, k, _⟩ := g
    exact (sqs_dK hd2' k p0 xs).1 hs
  · obtain ⟨x7, kvs, rfl, kp, hdk, hkl, hk⟩ := g
    have hj2 : j < (begS ts).length := by rw [← xl]; exact (List.getElem?_eq_some_iff.mp hj).1
    obtain ⟨t, et⟩ : ∃ t, (begS ts)[j]? = some t := ⟨_, List.getElem?_eq_getElem hj2⟩
    have hxt : x = .str t := by
      have := dpAll_get hx hj (show ((begS ts).map PyData.str)[j]? = some (.str t) by rw [List.getElem?_map, et]; rfl)
      cases this
      rfl
    subst hxt
    obtain ⟨wd, c, ew, hahead⟩ := begS_ahead et
    have htm := begS_mem.mp (List.mem_of_getElem? et)
    obtain ⟨t0, ht0, i0, hi0, e0⟩ := htm
    have hcin : c ∈ sg M.y := hin t0 ht0 c (List.mem_of_mem_take (by rw [← e0, ew]; exact List.mem_append_right _ (List.mem_singleton.mpr rfl)))
    have htl : t.length ≤ 300 := by
      rw [← sg_len, e0, List.length_take, sg_len]
      have := tok.2 t0 ht0
      omega
    obtain ⟨σ9, e9⟩ : ∃ σ9 : L2.St, σ9 = [some v, some v1, some (.str M.y), some vb, some vc, some vd, some (.ref d), some (.str t)] := ⟨_, rfl⟩
    show sDPut _ _ _ _ [some v, some v1, some (.str M.y), some vb, some vc, some vd, some (.ref d), some (.str t)] H'
    rw [← e9]
    have keepAll : Sqs K H2 H' := sqs_dK hd2' kp
    have hb3 : Dp K H' vb (llD M.rows) := dp_sqs keepAll (dp_ex (e1.trans e2) hb2)
    have a7 : EvD K (tVar 7) σ9 H' (.str t) := d_var ⟨.str t, by rw [e9]; rfl, .str t⟩
    have s6 : σ9[6]? = some (some (.ref d)) := by rw [e9]; rfl
    obtain ⟨vp, hvp, hdp⟩ := hk (cutS t none (some (-1))) (by
      rcases hahead with rfl | ⟨i, q', hi, hq, eq⟩
      · exact .inl (sg_inj (sg_init ew))
      · refine .inr ?_
        have : cutS t none (some (-1)) = q' := sg_inj ((sg_init ew).trans eq.symm)
        rw [this]
        exact List.mem_take_iff_getElem.mpr ⟨i, by have := (List.getElem?_eq_some_iff.mp hq).1; omega, (List.getElem?_eq_some_iff.mp hq).2⟩)
    rw [sg_init ew] at hdp
    have r1 := d_dgetS (K := K) s6 hdk (d_slS a7 p_none (p_some d_minus1) (by omega)) hvp hdp
    have hat : atI t.cps.toList (-1) = some c := by rw [show t.cps.toList = wd ++ [c] from ew]; exact atI_last wd c
    have r2 := d_index (K := K) (σ := σ9) (H := H') (to := tVar 2) (z := M.y) (c := c) (k := (sg M.y).idxOf c) (d_var ⟨.str M.y, by rw [e9]; rfl, .str _⟩) (d_ixS a7 d_minus1 (by omega) hat) (by
      rw [List.getElem?_eq_getElem (List.idxOf_lt_length_of_mem hcin)]
      exact congrArg some (List.getElem_idxOf _)) (fun m hm e => ?_)
    · have r3 := d_ixL (K := K) (ds := M.rows.map nlD) (d := nlD (M.row c)) (d_var (i := 3) ⟨vb, by rw [e9]; rfl, hb3⟩) r2 (atI_nat (by rw [List.getElem?_map, ok.rowAt hcin]; rfl))
      have rl := ok.rowLen hcin
      refine f_call (K := K) (pre := fun ds => ∃ r o, ds = [nlD r, nlD o] ∧ ThruOk r o) (g := two' fun r o => (thru (natsD r) (natsD o)).map natD) (ds_cons r1 (ds_cons r3 ds_nil)) ⟨M.tw wd, M.row c, rfl, by rw [rl]; exact tw_lt ok wd, by rw [tw_len]; exact ok.n2, by rw [rl]; exact ok.n2⟩ H' (Ex.refl _) _ fun p H5 np e5 hp => ?_
      have hp : Dp K H5 (.ref p) (nlD (M.tw (sg t))) := by
        have z : Dp K H5 (.ref p) (.list ((thru (natsD (nlD (M.tw wd))) (natsD (nlD (M.row c)))).map natD)) := hp.dp
        rw [natsD_row, natsD_row, ← tw_snoc, ← ew] at z
        exact z
      have hd5 := e5 _ _ hdk
      have bl := begS_len ts
      have pt := prefs_total ts 300 tok.2
      have tl : ts.length * 300 ≤ 100 * 300 := Nat.mul_le_mul_right _ tok.1
      refine ⟨.ref d, s6, .str t, by rw [e9]; rfl, d, _, rfl, DPut.k (k := .inr t) hd5 (Evl.sz_lt (by omega)), ?_⟩
      have k6 : ∀ b o, b ≠ d → H5 b = some o → (upd H5 d (.dK (putK kvs (.inr t) (.ref p)))) b = some o := fun b o n h => (upd_ne n).trans h
      have sq6 : Sqs K H5 (upd H5 d (.dK (putK kvs (.inr t) (.ref p)))) := sqs_dK hd5 k6
      have lput := length_putK kvs (.inr t : Key) (.ref p)
      refine ⟨some (.str t), _, e9, fun b o n h => k6 b o n (e5 _ _ (kp b o n h)), upd_same, by omega, fun z hz => ?_⟩
      rw [valV_put]
      split
      · rename_i ez
        obtain rfl : z = t := by cases ez; rfl
        exact ⟨.ref p, rfl, dp_sqs sq6 hp⟩
      · rename_i nz
        have hz2 : z = "" ∨ z ∈ (begS ts).take j := hz.imp id fun h => by
          rw [List.take_add_one, et] at h
          rcases List.mem_append.mp h with h | h
          · exact h
          · exact absurd (congrArg Sum.inr (List.mem_singleton.mp h)) nz
        obtain ⟨v', hv1, hv2⟩ := hk z hz2
        exact ⟨v', hv1, dp_sqs sq6 (dp_ex e5 hv2)⟩
    · obtain ⟨hlt, he⟩ := List.getElem?_eq_some_iff.mp e
      have := List.not_of_lt_findIdx (p := (· == c)) (xs := sg M.y) hm
      rw [beq_eq_false_iff_ne] at this
      exact this he
  · obtain ⟨x7, kvs, rfl, kp, hdk, hkl, hk⟩ := g
    refine ⟨_, rfl, q d H' nd (fun b o hb => kp b o (fun e => by rw [e, nd] at hb; cases hb) (e2 _ _ (e1 _ _ hb))) ⟨kvs, hdk, fun z hz => hk z (hz.imp id fun h => ?_)⟩⟩
    rw [xl, List.take_length]
    exact h
end
end K14

set_option maxHeartbeats 4000000
set_option autoImplicit false
/-! a list of lists that grows; d[s] as such data. -/
namespace AsLcN
open PySem PySem.Spec PyProof.Rows L2 AsSort AsKit AsZipG
open Evl (Ex Ev EvT EvA)
theorem wipe2_set {σ : L2.St} {i j : Nat} (h : i ≠ j) (a b : Option V) : ((wipe σ [i, j]).set i a).set j b = (σ.set i a).set j b := by
  show (((σ.set j none).set i none).set i a).set j b = _
  rw [List.set_set, List.set_comm none a h.symm, List.set_set]
theorem set2_wipe {σ : L2.St} {i j : Nat} (h : i ≠ j) (a b : Option V) : wipe ((σ.set i a).set j b) [i, j] = wipe σ [i, j] := by
  show (((σ.set i a).set j b).set j none).set i none = (σ.set j none).set i none
  rw [List.set_set, List.set_comm a none h, List.set_set]
section
variable {K : PySem.W.Frag} {σ : L2.St} {H H' : Hp} {te ty : TE} {d : PyData} {ds : List PyData}
/-- a list that grows at l, unknown in H0; its data hang on it nowhere -/
def AcL (K : PySem.W.Frag) (H0 : Hp) (l : Addr) (ds : List PyData) (H' : Hp) : Prop := H0 l = none ∧ Ex H0 H' ∧ ∃ acc, H' l = some (.lst acc) ∧ DpAll K (hid [l] H') acc ds
theorem acl_new {H0 H1 : Hp} {l : Addr} (h : H0 l = none) (e : Ex H0 H1) (h2 : H1 l = some (.lst [])) : AcL K H0 l [] H1 := ⟨h, e, [], h2, .nil⟩
theorem AcL.mono {H0 H1 H2 : Hp} {l : Addr} (a : AcL K H0 l ds H1) (e : Ex H1 H2) : AcL K H0 l ds H2 := let ⟨h1, h2, acc, h3, h4⟩ := a; ⟨h1, h2.trans e, acc, e _ _ h3, dpAll_ex (hid_ex e) h4⟩
theorem AcL.lsts {H0 H1 : Hp} {l : Addr} (a : AcL K H0 l ds H1) : Lsts [l] H1 := fun s hs => by
  obtain ⟨_, _, acc, h3, _⟩ := a
  rw [List.mem_singleton.mp hs]
  exact ⟨acc, h3⟩
theorem acl_app {H0 H1 : Hp} {l : Addr} {acc : List V} {v : V} (h1 : H0 l = none) (h2 : Ex H0 H1) (h4 : DpAll K (hid [l] H1) acc ds) (hv : Dp K (hid [l] H1) v d) : AcL K H0 l (ds ++ [d]) (upd H1 l (.lst (acc ++ [v]))) :=
  ⟨h1, Ex.mut h2 h1, acc ++ [v], upd_same, by rw [hid_upd (List.mem_singleton.mpr rfl)]; exact dpAll_snoc hv h4⟩
/-- l.append(e) -/
theorem s_appL {D : Ends} {i : Nat} {H0 : Hp} {l : Addr} (hσ : σ[i]? = some (some (.ref l))) (a : AcL K H0 l ds H) (h : EvN K [l] te σ H d) (hz : ds.length < 100000) (k : ∀ H1, AcL K H0 l (ds ++ [d]) H1 → D.nx σ H1) : tDrop (tBM K "list" rAppend (tVar i) (tCons te tNil)) D σ H := by
  have ls := a.lsts
  obtain ⟨h1, h2, acc, h3, h4⟩ := a
  refine ⟨_, hσ, .inl ⟨rfl, acc, Evl.sq_of h3⟩, h H (Ex.refl H) ls _ fun v H1 e hv => ?_⟩
  exact ⟨l, acc, v, rfl, rfl, e l _ h3, Evl.sz_lt (by rw [dpAll_len h4]; exact hz), k _ (acl_app h1 (h2.trans e) (dpAll_ex (hid_ex e) h4) hv)⟩
theorem acl_dp {H0 H1 : Hp} {l : Addr} (a : AcL K H0 l ds H1) : Dp K H1 (.ref l) (.list ds) := let ⟨_, _, _, h3, h4⟩ := a; .lst (Evl.sq_of h3) (dpAll_ex (hid_le _ _) h4)
theorem e_callC {sp : Sp} {E : XK} {ta : TA} {H1 : Hp} {Q : VK} (h : EvDs K ta σ H ds) (a : Ex H H1) (k : ∀ vs H2, Ex H1 H2 → DpAll K H2 vs ds → sp vs H2 Q E) : tCall sp [] E ta σ H1 Q := h H1 a _ fun vs H2 x hd => by
  show sp (vs ++ []) H2 _ E
  rw [List.append_nil]
  exact k vs H2 x hd
theorem s_asgC {D : Ends} {i : Nat} {sp : Sp} {E : XK} {ta : TA} (h : EvDs K ta σ H ds) (k : ∀ vs H1, Ex H H1 → DpAll K H1 vs ds → sp vs H1 (fun v H2 => D.nx (σ.set i (some v)) H2) E) : tAsg (tCall sp [] E ta) (gName i) D σ H := h H (Ex.refl H) _ fun vs H1 x hd => by
  show sp (vs ++ []) H1 _ E
  rw [List.append_nil]
  exact k vs H1 x hd
/-- i = f(..), f's promise of any kind -/
theorem q_asgC {D : Ends} {tz : TS} {i : Nat} {sp : Sp} {E : XK} {ta : TA} (h : EvDs K ta σ H ds) (k : ∀ vs H1, Ex H H1 → DpAll K H1 vs ds → sp vs H1 (fun v H2 => tz D (σ.set i (some v)) H2) E) : tSeq (tAsg (tCall sp [] E ta) (gName i)) tz D σ H := h H (Ex.refl H) _ fun vs H1 x hd => by
  show sp (vs ++ []) H1 _ E
  rw [List.append_nil]
  exact k vs H1 x hd
theorem s_retC {D : Ends} {sp : Sp} {E : XK} {ta : TA} (h : EvDs K ta σ H ds) (k : ∀ vs H1, Ex H H1 → DpAll K H1 vs ds → sp vs H1 (fun v H2 => D.rt v H2) E) : tRet (tCall sp [] E ta) D σ H := h H (Ex.refl H) _ fun vs H1 x hd => by
  show sp (vs ++ []) H1 _ E
  rw [List.append_nil]
  exact k vs H1 x hd
/-- d[s], s a text, d and its things known ahead of S -/
theorem n_dgetS {S : List Addr} {H0 : Hp} {i : Nat} {a : Addr} {kvs : Kvs} {z : Str} {v : V} (hσ : σ[i]? = some (some (.ref a))) (hd : H0 a = some (.dK kvs)) (hy : EvD K ty σ H (.str z)) (hv : valV kvs (.inr z) = some v) (he : Dp K H0 v d) (h0 : ∀ s ∈ S, H0 s = none) (x : Ex H0 H) : EvN K S (tDGet (tVar i) ty) σ H d := fun H1 e l Q q =>
  ⟨_, hσ, hy H1 e _ fun y H2 e2 hz => by
    cases hz
    have x2 := (x.trans e).trans e2
    exact ⟨a, v, rfl, by rw [← hv]; exact DGet.k (k := .inr z) (x2 _ _ hd), q v H2 e2 (dp_ex (hid_old h0 x2) he)⟩⟩
end
end AsLcN

set_option maxHeartbeats 4000000
set_option autoImplicit false
/-! a machine spread once. -/
namespace K14
open PySem PySem.Spec PyProof.Rows L2 AsSort AsKit AsToo AsObj AsLot AsZipG AsLcN AsLoose
open Evl (Ex Ev EvT EvA)
abbrev sSpr : Stmt := top 49
section
variable {P : Program} {w : World} {K : PySem.W.Frag} {mg : Str → Option Value} {base : Heap} {C : Addr}
abbrev nSpr : List Str := ["machine", "kinds", "letters", "rows", "free", "yes", "told", "wider", "found", "letter", "row", "joined", "left", "_", "right"]
theorem sc_spr : FnScope nSpr ["machine", "kinds"] (defScope sSpr) := ⟨rfl, rfl, rfl, by decide +kernel, rfl, by decide +kernel, by decide +kernel⟩
def KsOk (M : LM) (ks : List (Str × Str)) : Prop := ks.length ≤ 60 ∧ ∀ k ∈ ks, k.1.length ≤ 300 ∧ ∀ c ∈ sg k.1, c ∈ sg M.y
abbrev ksD (ks : List (Str × Str)) : PyData := .tuple (ks.map kD)
def spSpr (K : PySem.W.Frag) : Sp := fun vs H Q _ => ∃ (M : LM) (ks : List (Str × Str)), DpAll K H vs [M.d, ksD ks] ∧ M.Ok ∧ KsOk M ks ∧ ∀ v H', Ex H H' → Dp K H' v (M.spr ks).d → Q v H'
def leftOf (d : PyData) : PyData := .str (pairOf d).1
def rightIs (r : Str) (d : PyData) : Bool := decide ((pairOf d).2 = r)
def twOf (M : LM) (d : PyData) : PyData := nlD (M.tw (sg (pairOf d).1))
theorem told_data (M : LM) (ks : List (Str × Str)) (r : Str) : ((ks.map kD).filter (rightIs r)).map (twOf M) = (M.told ks r).map nlD := by
  unfold LM.told
  rw [List.filter_map, List.map_map, List.map_map]
  have e1 : rightIs r ∘ kD = fun k : Str × Str => decide (k.2 = r) := funext fun k => by show decide ((pairOf (kD k)).2 = r) = _; rw [pair_kD]
  have e2 : twOf M ∘ kD = nlD ∘ fun k : Str × Str => M.tw (sg k.1) := funext fun k => by show nlD (M.tw (sg (pairOf (kD k)).1)) = _; rw [pair_kD]; rfl
  rw [e1, e2]
theorem begS_self {ts : List Str} {t : Str} (h : t ∈ ts) : t = "" ∨ t ∈ begS ts := by
  by_cases h0 : t.length = 0
  · refine .inl (sg_inj ?_)
    have := sg_len t
    rw [h0] at this
    rw [List.length_eq_zero_iff.mp this]
    rfl
  · refine .inr (begS_mem.mpr ⟨t, h, t.length - 1, by omega, ?_⟩)
    rw [List.take_of_length_le (by rw [sg_len]; omega)]
/-- the rows that lead by the l's of one r -/
theorem n_told {σ : L2.St} {H H0 : Hp} {M : LM} {ks : List (Str × Str)} {bs : List Str} {d : Addr} {v1 : V} {r : Str} {tr : TE} {S : List Addr} (hT : ToldAt K M bs H0 d) (hb : ∀ k ∈ ks, k.1 = "" ∨ k.1 ∈ bs) (x0 : Ex H0 H) (hkl : ks.length ≤ 60) (h0 : ∀ s ∈ S, H0 s = none)
    (s1 : σ[1]? = some (some v1)) (hk : Dp K H0 v1 (ksD ks)) (s6 : σ[6]? = some (some (.ref d))) (hl : σ.length = 15)
    (hr : ∀ (G : Hp) (τ : L2.St), τ[9]? = σ[9]? → EvD K tr τ G (.str r)) :
    EvN K S (tLc (iTup K (tVar 1)) (gTup K 2 (gCons (gName 12) (gCons (gName 14) gNil))) (tTest (tOp rEq (tVar 14) tr)) (tDGet (tVar 6) (tVar 12)) [12, 14]) σ H (llD (M.told ks r)) := by
  have key := n_lcT (K := K) (S := S) (σ := σ) (H := H) (tl := tVar 1) (gt := gTup K 2 (gCons (gName 12) (gCons (gName 14) gNil))) (t := tTest (tOp rEq (tVar 14) tr)) (te := tDGet (tVar 6) (tVar 12)) (vs := [12, 14]) (ds := ks.map kD) (rightIs r) (twOf M) (n_var ⟨v1, s1, hk⟩ h0 x0) (by rw [List.length_map]; omega) (fun y hy => ?_)
  · refine n_eqTo key ?_
    rw [told_data]
  · obtain ⟨k, hkm, rfl⟩ := List.mem_map.mp hy
    intro D hD x H1 e1 l1 hx kk hkk
    refine AsKit.g_two (dp_ex (hid_le _ _) hx) fun va vb ha hb2 => ?_
    cases ha
    cases hb2
    obtain ⟨τ, eτ⟩ : ∃ τ, τ = (σ.set 12 (some (.str k.1))).set 14 (some (.str k.2)) := ⟨_, rfl⟩
    rw [wipe2_set (by decide), ← eτ]
    have t12 : τ[12]? = some (some (.str k.1)) := by rw [eτ, List.getElem?_set_ne (by decide), List.getElem?_set_self (by omega)]
    have t14 : τ[14]? = some (some (.str k.2)) := by rw [eτ, List.getElem?_set_self (by rw [List.length_set]; omega)]
    have t6 : τ[6]? = some (some (.ref d)) := by rw [eτ, List.getElem?_set_ne (by decide), List.getElem?_set_ne (by decide)]; exact s6
    have t9 : τ[9]? = σ[9]? := by rw [eτ, List.getElem?_set_ne (by decide), List.getElem?_set_ne (by decide)]
    refine hkk τ ?_ ?_ fun _ => ?_
    · rw [eτ, set2_wipe (by decide)]
    · refine t_ofD (K := K) (d_eqTo (d_eqS (d_var ⟨_, t14, .str k.2⟩) (hr H1 τ t9)) ?_)
      show PyData.bool (decide (k.2 = r)) = .bool (decide ((pairOf (kD k)).2 = r))
      rw [pair_kD]
    · obtain ⟨kvs, hd, hv⟩ := hT
      obtain ⟨v, h1, h2⟩ := hv k.1 (hb k hkm)
      have x2 := x0.trans e1
      refine n_eqTo (n_dgetS t6 hd (d_var ⟨_, t12, .str k.1⟩) h1 h2 (fun s hs => ?_) x2) ?_
      · rcases List.mem_cons.mp hs with rfl | hs
        · exact none_back x0 hD
        · exact h0 s hs
      · show nlD (M.tw (sg k.1)) = nlD (M.tw (sg (pairOf (kD k)).1))
        rw [pair_kD]
theorem c_spr (D : Df K mg "spread_once" sSpr) (hb : Bl mg) (nz : mg "zip" = none) (C1 : Cl P w K mg base 4 "rows_of_texts" (spRowsOf K) []) (C2 : Cl P w K mg base 1 "rows_joined" (spJoined K) []) (C3 : Cl P w K mg base 3 "rows_through" (spThru K) []) : Cl P w K mg base 5 "spread_once" (spSpr K) [] := by
  refine cl_of D sc_spr (fun vs H Q E ⟨M, ts, h, _⟩ => dpAll_len h) (fun _ _ _ _ _ _ us hl => match us, hl with | [_, _], _ => rfl) fun f cdv A outer s H vs Q E hr h => ?_
  obtain ⟨M, ks, hd, ok, kok, q⟩ := h
  obtain ⟨v, v1, rfl, h0, h1⟩ := dp2 hd
  refine ⟨_, pss_cons (ps_asg (pv 0) (pg_tup rfl (pgs_cons (pg_name (i := 2) sc_spr.nd rfl (.inl rfl)) (pgs_cons (pg_name (i := 3) sc_spr.nd rfl (.inl rfl)) (pgs_cons (pg_name (i := 4) sc_spr.nd rfl (.inl rfl)) (pgs_cons (pg_name (i := 5) sc_spr.nd rfl (.inl rfl)) pgs_nil))))))
    (pss_cons (ps_set (i := 6) sc_spr.nd rfl (.inr rfl) (C8.pe_c C1 hr (by decide) (by rfl) (pa_cons (pv 0) (pa_cons (pe_lc (own := [("left", 12), ("_", 13)]) (g := gTup K 2 (gCons (gName 12) (gCons (gName 13) gNil))) rfl sc_spr.nd (pi_tup (pv 1)) (blkOk_by (N := nSpr) (sc := defScope sSpr) (own := [("left", 12), ("_", 13)]) (by decide +kernel))
        (fun _ _ _ _ _ => pg_tup rfl (pgs_cons (pg_name (i := 12) sc_spr.nd rfl (.inl rfl) (.inr rfl)) (pgs_cons (pg_name (i := 13) sc_spr.nd rfl (.inl rfl) (.inr rfl)) pgs_nil))) (fun _ _ _ _ _ => pts_nil) (fun _ _ _ _ _ => pv 12)) pa_nil))))
    (pss_cons (ps_set (i := 7) sc_spr.nd rfl (.inl rfl) (C8.pe_c C2 hr (by decide) (by rfl) (pa_cons (pv 4) (pa_cons (pe_lc (own := [("left", 12), ("right", 14)]) (g := gTup K 2 (gCons (gName 12) (gCons (gName 14) gNil))) rfl sc_spr.nd (pi_tup (pv 1)) (blkOk_by (N := nSpr) (sc := defScope sSpr) (own := [("left", 12), ("right", 14)]) (by decide +kernel))
        (fun _ _ _ _ _ => pg_tup rfl (pgs_cons (pg_name (i := 12) sc_spr.nd rfl (.inl rfl) (.inr rfl)) (pgs_cons (pg_name (i := 14) sc_spr.nd rfl (.inl rfl) (.inr rfl)) pgs_nil))) (fun _ _ _ _ _ => pts_one (pt_cmpR op_eq (pv 14) pe_str (nomark _))) (fun _ _ _ _ _ => pe_dget (by have := hr.un; show (A.deeper _).units + 1 < cLine; omega) (pv 6) (pv 12) (fun _ _ => rfl))) pa_nil))))
    (pss_cons (ps_set (i := 7) sc_spr.nd rfl (.inl rfl) (C8.pe_c C3 hr (by decide) (by rfl) (pa_cons (pv 7) (pa_cons (pv 7) pa_nil))))
    (pss_cons (ps_set (i := 8) sc_spr.nd rfl (.inl rfl) (pe_lst pa_nil))
    (pss_cons (ps_for PassesOwn.never rfl (pi_zipG (by rfl) nz (pa_cons (pv 2) (pa_cons (pv 3) pa_nil))) (pg_tup rfl (pgs_cons (pg_name (i := 9) sc_spr.nd rfl (.inr rfl) (.inl rfl)) (pgs_cons (pg_name (i := 10) sc_spr.nd rfl (.inl rfl)) pgs_nil)))
      (pss_cons (ps_set (i := 11) sc_spr.nd rfl (.inl rfl) (C8.pe_c C2 hr (by decide) (by rfl) (pa_cons (pv 10) (pa_cons (pe_lc (own := [("left", 12), ("right", 14)]) (g := gTup K 2 (gCons (gName 12) (gCons (gName 14) gNil))) rfl sc_spr.nd (pi_tup (pv 1)) (blkOk_by (N := nSpr) (sc := defScope sSpr) (own := [("left", 12), ("right", 14)]) (by decide +kernel))
        (fun _ _ _ _ _ => pg_tup rfl (pgs_cons (pg_name (i := 12) sc_spr.nd rfl (.inl rfl) (.inr rfl)) (pgs_cons (pg_name (i := 14) sc_spr.nd rfl (.inl rfl) (.inr rfl)) pgs_nil))) (fun _ _ _ _ _ => pts_one (pt_cmpR op_eq (pv 14) (pv 9) (nomark _))) (fun _ _ _ _ _ => pe_dget (by have := hr.un; show (A.deeper _).units + 1 < cLine; omega) (pv 6) (pv 12) (fun _ _ => rfl))) pa_nil))))
      (pss_one (ps_expr (pe_bm PySem.F.plainAttrs_list PySem.F.slot_list_append PySem.F.type_list_append mt_append (pv 8) (pa_cons (C8.pe_c C3 hr (by decide) (by rfl) (pa_cons (pv 11) (pa_cons (pv 7) pa_nil))) pa_nil))))))
    (pss_one (ps_ret (pe_tup (pa_cons (pv 2) (pa_cons (pv 8) (pa_cons (pv 7) (pa_cons (pv 5) pa_nil)))))))))))), ?_⟩
  refine ⟨v, rfl, g_four h0 fun va vb vc vd ha hb2 hc hd2 => ?_⟩
  cases ha
  cases hd2
  obtain ⟨σ1, e1⟩ : ∃ σ : L2.St, σ = [some v, some v1, some (.str M.y), some vb, some vc, some (.int (M.yes : Int)), none, none, none, none, none, none, none, none, none] := ⟨_, rfl⟩
  dsimp only
  show tSeq (tAsg (tCall (spRowsOf K) [] C8.E0 _) (gName 6)) _ _ [some v, some v1, some (.str M.y), some vb, some vc, some (.int (M.yes : Int)), none, none, none, none, none, none, none, none, none] H
  rw [← e1]
  have lefts : ((ks.map kD).filter fun _ => true).map leftOf = (ks.map (·.1)).map PyData.str := by
    rw [filter_true, List.map_map, List.map_map]
    exact List.map_congr_left fun k _ => by show PyData.str (pairOf (kD k)).1 = _; rw [pair_kD]; rfl
  have args : EvDs K (tCons (tVar 0) (tCons (tLc (iTup K (tVar 1)) (gTup K 2 (gCons (gName 12) (gCons (gName 13) gNil))) tYes (tVar 12) [12, 13]) tNil)) σ1 H [M.d, slD (ks.map (·.1))] := by
    refine ds_cons (d_var ⟨v, by rw [e1]; rfl, h0⟩) (ds_cons (d_eqTo (AsKit.d_lcT (K := K) (ds := ks.map kD) (fun _ => true) leftOf (d_var ⟨v1, by rw [e1]; rfl, h1⟩) (by rw [List.length_map]; have := kok.1; omega) (fun _ _ _ => rfl) fun y hy => ?_) (by rw [lefts])) ds_nil)
    obtain ⟨k, hkm, rfl⟩ := List.mem_map.mp hy
    intro x H1 x1 hx kk hkk
    refine AsKit.g_two hx fun wa wb hwa hwb => ?_
    cases hwa
    cases hwb
    rw [wipe2_set (by decide)]
    refine hkk _ (set2_wipe (by decide) _ _) (fun _ _ Q q => q _ (Ex.refl _)) fun _ => ?_
    refine d_eqTo (d_var (K := K) (d := .str k.1) ⟨.str k.1, by rw [e1]; rfl, .str k.1⟩) ?_
    show PyData.str k.1 = .str (pairOf (kD k)).1
    rw [pair_kD]
  refine q_asgC (K := K) args fun us H1 x1 hus => ?_
  have tok : TxsOk (ks.map (·.1)) := ⟨by rw [List.length_map]; have := kok.1; omega, fun t ht => by
    obtain ⟨k, hk, rfl⟩ := List.mem_map.mp ht
    exact (kok.2 k hk).1⟩
  refine ⟨M, ks.map (·.1), hus, ok, tok, fun t ht => ?_, fun d H2 nd x2 hT => ?_⟩
  · obtain ⟨k, hk, rfl⟩ := List.mem_map.mp ht
    exact (kok.2 k hk).2
  have hbs : ∀ k ∈ ks, k.1 = "" ∨ k.1 ∈ begS (ks.map (·.1)) := fun k hk => begS_self (List.mem_map.mpr ⟨k, hk, rfl⟩)
  have y2 : Ex H H2 := x1.trans x2
  rw [e1]
  obtain ⟨σ2, e2⟩ : ∃ σ : L2.St, σ = [some v, some v1, some (.str M.y), some vb, some vc, some (.int (M.yes : Int)), some (.ref d), none, none, none, none, none, none, none, none] := ⟨_, rfl⟩
  show tSeq (tAsg (tCall (spJoined K) [] C8.E0 _) (gName 7)) _ _ [some v, some v1, some (.str M.y), some vb, some vc, some (.int (M.yes : Int)), some (.ref d), none, none, none, none, none, none, none, none] H2
  rw [← e2]
  have hc2 := dp_ex y2 hc
  have h12 := dp_ex y2 h1
  have n2 := ok.n2
  have w1 := n_told (K := K) (S := []) (σ := σ2) (r := "") (tr := tC (.str "")) hT hbs (Ex.refl H2) kok.1 (fun _ z => absurd z List.not_mem_nil) (by rw [e2]; rfl) h12 (by rw [e2]; rfl) (by rw [e2]; rfl) fun G τ _ => d_str
  have c1 := f_call (K := K) (E := C8.E0) (pre := fun ds => ∃ r ls, ds = [nlD r, llD ls] ∧ r.length ≤ 2000) (g := two' fun r l => (joined (natsD r) (listsD l)).map natD) (ds_cons (d_var (i := 4) ⟨vc, by rw [e2]; rfl, hc2⟩) (ds_cons (n_nil w1) ds_nil)) ⟨_, _, rfl, n2⟩
  refine q_asgF (K := K) (f_eqTo c1 (show (joined (natsD (nlD M.free)) (listsD (llD (M.told ks "")))).map natD = (M.fre ks).map natD by rw [natsD_row, listsD_of]; rfl)) fun p7 H3 np7 x3 h7' => ?_
  have h7 := h7'.dp
  have fl := fre_len (ks := ks) ok
  have c2 := f_call (K := K) (E := C8.E0) (σ := σ2.set 7 (some (.ref p7))) (pre := fun ds => ∃ r o, ds = [nlD r, nlD o] ∧ ThruOk r o) (g := two' fun r o => (thru (natsD r) (natsD o)).map natD) (ds_cons (d_var (i := 7) ⟨_, by rw [e2]; rfl, h7⟩) (ds_cons (d_var (i := 7) ⟨_, by rw [e2]; rfl, h7⟩) ds_nil)) ⟨M.fre ks, M.fre ks, rfl, by rw [fl]; exact fre_lt ok, by omega, by omega⟩
  refine q_asgF (K := K) (f_eqTo c2 (show (thru (natsD (nlD (M.fre ks))) (natsD (nlD (M.fre ks)))).map natD = (M.wide ks).map natD by rw [natsD_row]; rfl)) fun p8 H4 np8 x4 h8' => ?_
  have h8 := h8'.dp
  rw [e2]
  refine ⟨Evl.sz_of (by decide), fun l nl => ?_⟩
  have y4 : Ex H2 H4 := x3.trans x4
  have yl := Ex.new (o := .lst []) nl
  obtain ⟨H5, eH5⟩ : ∃ H5, H5 = upd H4 l (.lst []) := ⟨_, rfl⟩
  rw [← eH5] at yl ⊢
  have acl0 : AcL K H4 l [] H5 := acl_new nl yl (by rw [eH5, upd_same])
  obtain ⟨sa, xs, ea, ia, da, ka⟩ := src_of (K := K) (H := H4) (v := .str M.y) (.str M.y) rfl
  obtain ⟨sb, ys, eb, ib, db, kb⟩ := src_of (K := K) (H := H4) (v := vb) (dp_ex (y2.trans y4) hb2) rfl
  have la : xs.length = (sg M.y).length := by rw [dpAll_len da]; exact List.length_map ..
  have lb : ys.length = M.rows.length := by rw [dpAll_len db]; exact List.length_map ..
  obtain ⟨zs, ezs⟩ : ∃ zs, zs = (sg M.y).zip M.rows := ⟨_, rfl⟩
  have lz : zs.length = M.rows.length := by rw [ezs, List.length_zip, ok.ln, Nat.min_self]
  refine ⟨_, rfl, _, rfl, sa, sb, xs, ys, by rw [← ea, ← eb], ka _ yl, kb _ yl, ?_⟩
  let rw_ : Nat × List Nat → PyData := fun p => nlD (thru (joined p.2 (M.told ks ⟨#[p.1]⟩)) (M.wide ks))
  refine for_zipG (xs := xs) (ys := ys) (n := zs.length) (by rw [la, lb, lz, ok.ln, Nat.min_self]) (fun i σ' H' => ∃ x9 x10 x11, σ' = [some v, some v1, some (.str M.y), some vb, some vc, some (.int (M.yes : Int)), some (.ref d), some (.ref p8), some (.ref l), x9, x10, x11, none, none, none] ∧ AcL K H4 l ((zs.take i).map rw_) H') ?_ (fun i σ' H' g => ?_) (fun i x y T σ' H' hx hy g nT => ?_) fun σ' H' g => ?_
  · exact ⟨none, none, none, rfl, acl0⟩
  · obtain ⟨_, _, _, _, a⟩ := g
    exact ⟨ka _ a.2.1, kb _ a.2.1⟩
  · obtain ⟨x9, x10, x11, rfl, acl⟩ := g
    have hi : i < (sg M.y).length := by rw [← la]; exact (List.getElem?_eq_some_iff.mp hx).1
    have hi2 : i < M.rows.length := by rw [ok.ln]; exact hi
    have hxc : x = .str ⟨#[(sg M.y)[i]]⟩ := by
      have := dpAll_get da hx (show (sgns M.y)[i]? = some (.str ⟨#[(sg M.y)[i]]⟩) by unfold sgns; rw [List.getElem?_map, List.getElem?_eq_getElem hi]; rfl)
      cases this
      rfl
    have hyr : Dp K H4 y (nlD M.rows[i]) := dpAll_get db hy (show (M.rows.map nlD)[i]? = some (nlD M.rows[i]) by rw [List.getElem?_map, List.getElem?_eq_getElem hi2]; rfl)
    obtain ⟨c, ec⟩ : ∃ c, c = (sg M.y)[i] := ⟨_, rfl⟩
    obtain ⟨r, er⟩ : ∃ r, r = M.rows[i] := ⟨_, rfl⟩
    rw [← ec] at hxc
    rw [← er] at hyr
    have hrm : r ∈ M.rows := by rw [er]; exact List.getElem_mem hi2
    have hzi : zs[i]? = some (c, r) := by rw [ezs, List.getElem?_zip_eq_some]; exact ⟨by rw [List.getElem?_eq_getElem hi, ec], by rw [List.getElem?_eq_getElem hi2, er]⟩
    subst hxc
    have xT := Ex.new (o := .tup [.str ⟨#[c]⟩, y]) nT
    have aclT := acl.mono xT
    obtain ⟨HT, eHT⟩ : ∃ HT, HT = upd H' T (.tup [.str ⟨#[c]⟩, y]) := ⟨_, rfl⟩
    have hT2 : Dp K HT (.ref T) (.tuple [.str ⟨#[c]⟩, nlD r]) := by
      rw [eHT]
      exact .tup (Evl.st_of upd_same) (.cons (.str _) (.cons (dp_ex (acl.2.1.trans xT) hyr) .nil))
    rw [← eHT] at xT aclT ⊢
    refine AsKit.g_two hT2 fun wa wb hwa hwb => ?_
    cases hwa
    obtain ⟨σ9, e9⟩ : ∃ σ : L2.St, σ = [some v, some v1, some (.str M.y), some vb, some vc, some (.int (M.yes : Int)), some (.ref d), some (.ref p8), some (.ref l), some (.str ⟨#[c]⟩), some wb, x11, none, none, none] := ⟨_, rfl⟩
    show tSeq (tAsg (tCall (spJoined K) [] C8.E0 _) (gName 11)) _ _ [some v, some v1, some (.str M.y), some vb, some vc, some (.int (M.yes : Int)), some (.ref d), some (.ref p8), some (.ref l), some (.str ⟨#[c]⟩), some wb, x11, none, none, none] HT
    rw [← e9]
    have zT : Ex H2 HT := y4.trans aclT.2.1
    have w2 := n_told (K := K) (S := []) (σ := σ9) (H := HT) (r := ⟨#[c]⟩) (tr := tVar 9) hT hbs zT kok.1 (fun _ z => absurd z List.not_mem_nil) (by rw [e9]; rfl) h12 (by rw [e9]; rfl) (by rw [e9]; rfl) fun G τ ht => d_var ⟨.str ⟨#[c]⟩, by rw [ht, e9]; rfl, .str _⟩
    have rl := ok.rl r hrm
    have c3 := f_call (K := K) (E := C8.E0) (pre := fun ds => ∃ r ls, ds = [nlD r, llD ls] ∧ r.length ≤ 2000) (g := two' fun r l => (joined (natsD r) (listsD l)).map natD) (ds_cons (d_var (i := 10) ⟨wb, by rw [e9]; rfl, hwb⟩) (ds_cons (n_nil w2) ds_nil)) ⟨_, _, rfl, by rw [rl]; exact n2⟩
    refine q_asgF (K := K) (f_eqTo c3 (show (joined (natsD (nlD r)) (listsD (llD (M.told ks ⟨#[c]⟩)))).map natD = (joined r (M.told ks ⟨#[c]⟩)).map natD by rw [natsD_row, listsD_of])) fun p11 H6 np11 x6 h11' => ?_
    have h11 := h11'.dp
    have jl : (joined r (M.told ks ⟨#[c]⟩)).length = M.free.length := joined_len rl fun l hl => (told_mem ok hl).1
    have jlt := joined_lt (n := M.free.length) (ok.rb r hrm) fun l hl => (told_mem (ks := ks) (r := ⟨#[c]⟩) ok hl).2
    have wl := wide_len (ks := ks) ok
    have c4 := f_call (K := K) (E := C8.E0) (σ := σ9.set 11 (some (.ref p11))) (H := H6) (pre := fun ds => ∃ r o, ds = [nlD r, nlD o] ∧ ThruOk r o) (g := two' fun r o => (thru (natsD r) (natsD o)).map natD) (ds_cons (d_var (i := 11) ⟨_, by rw [e9]; rfl, h11⟩) (ds_cons (d_var (i := 7) ⟨.ref p8, by rw [e9]; rfl, dp_ex (aclT.2.1.trans x6) h8⟩) ds_nil)) ⟨_, M.wide ks, rfl, by rw [wl]; exact jlt, by omega, by omega⟩
    have c5 := f_eqTo c4 (show (thru (natsD (nlD (joined r (M.told ks ⟨#[c]⟩)))) (natsD (nlD (M.wide ks)))).map natD = (thru (joined r (M.told ks ⟨#[c]⟩)) (M.wide ks)).map natD by rw [natsD_row, natsD_row])
    refine s_appL (K := K) (i := 8) (H0 := H4) (by rw [e9]; rfl) (aclT.mono x6) (n_fresh c5 (natD_imm _)) (by rw [List.length_map]; have := List.length_take_le' i zs; have := ok.yl; have := sg_len M.y; rw [lz, ok.ln] at *; omega) fun H7 a7 => ⟨some (.str ⟨#[c]⟩), some wb, some (.ref p11), by rw [e9]; rfl, ?_⟩
    rw [List.take_add_one, hzi, List.map_append]
    exact a7
  · obtain ⟨x9, x10, x11, rfl, acl⟩ := g
    rw [List.take_length] at acl
    have zz := y2.trans (y4.trans acl.2.1)
    refine AsKit.s_ret (K := K) (d_tup (ds_cons (d_var (i := 2) ⟨_, rfl, .str M.y⟩) (ds_cons (d_var (i := 8) ⟨_, rfl, acl_dp acl⟩) (ds_cons (d_var (i := 7) ⟨_, rfl, dp_ex acl.2.1 h8⟩) (ds_cons (d_var (i := 5) ⟨_, rfl, .int _⟩) ds_nil)))) (by show 4 ≤ 100000; decide)) fun u H6 x6 hu => q u H6 (zz.trans x6) ?_
    have e : (M.spr ks).d = .tuple [.str M.y, .list (zs.map rw_), nlD (M.wide ks), natD M.yes] := by
      show PyData.tuple [.str M.y, .list ((((sg M.y).zip M.rows).map fun p => thru (joined p.2 (M.told ks ⟨#[p.1]⟩)) (M.wide ks)).map nlD), nlD (M.wide ks), natD M.yes] = _
      rw [List.map_map, ← ezs]
      rfl
    rw [e]
    exact hu
end
end K14

set_option maxHeartbeats 4000000
set_option autoImplicit false
/-! machines spread; what is said. -/
namespace K14
open PySem PySem.Spec PyProof.Rows L2 AsSort AsKit AsToo AsObj AsLot AsZipG AsLcN AsLoose
open Evl (Ex Ev EvT EvA)
abbrev sSpread : Stmt := top 50
abbrev sSaid : Stmt := top 51
section
variable {P : Program} {w : World} {K : PySem.W.Frag} {mg : Str → Option Value} {base : Heap} {C : Addr}
abbrev nSpread : List Str := ["machine", "kinds", "now", "wider"]
theorem sc_spread : FnScope nSpread ["machine", "kinds"] (defScope sSpread) := ⟨rfl, rfl, rfl, by decide +kernel, rfl, by decide +kernel, by decide +kernel⟩
theorem KsOk.sprs {M : LM} {ks : List (Str × Str)} (h : KsOk M ks) (k : Nat) : KsOk (M.sprs ks k) ks := ⟨h.1, by rw [(sprs_same M ks k).1]; exact h.2⟩
def spSpread (K : PySem.W.Frag) : Sp := fun vs H Q _ => ∃ (M : LM) (ks : List (Str × Str)), DpAll K H vs [M.d, ksD ks] ∧ M.Ok ∧ KsOk M ks ∧ ∀ v H' k, Ex H H' → Dp K H' v (M.sprs ks k).d → (M.sprs ks k).spr ks = M.sprs ks k → Q v H'
theorem c_spread (D : Df K mg "spread" sSpread) (C1 : Cl P w K mg base 5 "spread_once" (spSpr K) []) : Cl P w K mg base 6 "spread" (spSpread K) [] := by
  refine cl_of D sc_spread (fun vs H Q E ⟨M, ts, h, _⟩ => dpAll_len h) (fun _ _ _ _ _ _ us hl => match us, hl with | [_, _], _ => rfl) fun f cdv A outer s H vs Q E hr h => ?_
  obtain ⟨M, ks, hd, ok, kok, q⟩ := h
  obtain ⟨v, v1, rfl, h0, h1⟩ := dp2 hd
  have hu : (A.deeper (envOfC "spread" (defScope sSpread) s.heap.objs.size f cdv)).units + 64 < cLine := by have := hr.un; omega
  refine ⟨_, pss_cons (ps_set (i := 2) sc_spread.nd rfl (.inl rfl) (pv 0)) (pss_cons (ps_set (i := 3) sc_spread.nd rfl (.inl rfl) (C8.pe_c C1 hr (by decide) (by rfl) (pa_cons (pv 2) (pa_cons (pv 1) pa_nil))))
    (pss_cons (ps_while PassesOwn.never (pt_cmpR (op_neD hu) (pv 3) (pv 2) (nomark _)) (pss_cons (ps_set (i := 2) sc_spread.nd rfl (.inl rfl) (pv 3)) (pss_one (ps_set (i := 3) sc_spread.nd rfl (.inl rfl) (C8.pe_c C1 hr (by decide) (by rfl) (pa_cons (pv 2) (pa_cons (pv 1) pa_nil)))))))
    (pss_one (ps_ret (pv 2))))), ?_⟩
  refine ⟨v, rfl, ?_⟩
  refine q_asgC (K := K) (σ := [some v, some v1, some v, none]) (ds := [M.d, ksD ks]) (ds_cons (d_var (i := 2) ⟨v, rfl, h0⟩) (ds_cons (d_var (i := 1) ⟨v1, rfl, h1⟩) ds_nil)) fun us H1 e1 hus => ⟨M, ks, hus, ok, kok, fun v3 H2 e2 h3 => ?_⟩
  refine Evl.q_while (fun m σ' H' => ∃ k v2 v3, σ' = [some v, some v1, some v2, some v3] ∧ Ex H H' ∧ Dp K H' v2 (M.sprs ks k).d ∧ Dp K H' v3 ((M.sprs ks k).spr ks).d ∧ m = (M.sprs ks k).left) _ ⟨0, v, v3, rfl, e1.trans e2, dp_ex (e1.trans e2) h0, h3, rfl⟩ fun m σ' H' hw => ?_
  obtain ⟨k, v2, v4, rfl, e, h2, h4, rfl⟩ := hw
  have okk := sprs_ok (ks := ks) ok k
  have oks := spr_ok (ks := ks) okk
  refine ⟨!decide ((M.sprs ks k).spr ks = M.sprs ks k), t_ofD (K := K) (d_eqTo (d_neD (d_var (i := 3) ⟨v4, rfl, h4⟩) (d_var (i := 2) ⟨v2, rfl, h2⟩) (shaped_lm oks.so) (shaped_lm okk.so)) (by rw [eqv_lm])), fun hb1 H3 e3 => ?_, fun hb1 H3 e3 => ?_⟩
  · have ne : (M.sprs ks k).spr ks ≠ M.sprs ks k := of_decide_eq_false (by simpa using hb1)
    have hless := left_lt okk ne
    refine ⟨fun σ2 H2 => ∃ k' v2 v3, σ2 = [some v, some v1, some v2, some v3] ∧ Ex H H2 ∧ Dp K H2 v2 (M.sprs ks k').d ∧ Dp K H2 v3 ((M.sprs ks k').spr ks).d ∧ ((M.sprs ks k).spr ks).left = (M.sprs ks k').left, fun σ2 H2 h => ⟨_, hless, h⟩, ?_⟩
    refine ⟨v4, rfl, ?_⟩
    have h4' := dp_ex e3 h4
    refine s_asgC (K := K) (σ := [some v, some v1, some v4, some v4]) (ds_cons (d_var (i := 2) ⟨v4, rfl, h4'⟩) (ds_cons (d_var (i := 1) ⟨v1, rfl, dp_ex (e.trans e3) h1⟩) ds_nil)) fun us H4 e4 hus => ?_
    exact ⟨(M.sprs ks k).spr ks, ks, hus, oks, kok.sprs (k + 1), fun v5 H5 e5 h5 => ⟨k + 1, v4, v5, rfl, (e.trans e3).trans (e4.trans e5), dp_ex (e4.trans e5) h4', h5, rfl⟩⟩
  · have eq : (M.sprs ks k).spr ks = M.sprs ks k := of_decide_eq_true (by simpa using hb1)
    exact ⟨v2, rfl, q v2 H3 k (e.trans e3) (dp_ex e3 h2) eq⟩
abbrev nSaid : List Str := ["machine", "text", "_", "yes"]
theorem sc_said : FnScope nSaid ["machine", "text"] (defScope sSaid) := ⟨rfl, rfl, rfl, by decide +kernel, rfl, by decide +kernel, by decide +kernel⟩
def spSaid (K : PySem.W.Frag) : Sp := fun vs H Q _ => ∃ (M : LM) (t : Str), DpAll K H vs [M.d, .str t] ∧ M.Ok ∧ t.length ≤ 300 ∧ (∀ c ∈ sg t, c ∈ sg M.y) ∧ ∀ H', Ex H H' → Q (.bl (M.said (sg t))) H'
theorem c_said (D : Df K mg "is_said" sSaid) (C1 : Cl P w K mg base 4 "rows_of_texts" (spRowsOf K) []) : Cl P w K mg base 5 "is_said" (spSaid K) [] := by
  refine cl_of D sc_said (fun vs H Q E ⟨M, ts, h, _⟩ => dpAll_len h) (fun _ _ _ _ _ _ us hl => match us, hl with | [_, _], _ => rfl) fun f cdv A outer s H vs Q E hr h => ?_
  obtain ⟨M, t, hd, ok, htl, hin, q⟩ := h
  obtain ⟨v, v1, rfl, h0, h1⟩ := dp2 hd
  cases h1
  have hu : (A.deeper (envOfC "is_said" (defScope sSaid) s.heap.objs.size f cdv)).units + 1 < cLine := by have := hr.un; omega
  refine ⟨_, pss_cons (ps_asg (pv 0) (pg_tup rfl (pgs_cons (pg_name (i := 2) sc_said.nd rfl (.inl rfl)) (pgs_cons (pg_name (i := 2) sc_said.nd rfl (.inl rfl)) (pgs_cons (pg_name (i := 2) sc_said.nd rfl (.inl rfl)) (pgs_cons (pg_name (i := 3) sc_said.nd rfl (.inl rfl)) pgs_nil))))))
    (pss_one (ps_ret (pe_cmpR op_gt (pe_op op_and (pe_ix (r := rIxL K) ix_list (pe_dget hu (C8.pe_c C1 hr (by decide) (by rfl) (pa_cons (pv 0) (pa_cons (pe_lst (pa_cons (pv 1) pa_nil)) pa_nil))) (pv 1) (fun _ _ => rfl)) pe_int (fun _ _ => rfl)) (pv 3)) pe_int (nomark _)))), ?_⟩
  refine ⟨v, rfl, g_four h0 fun va vb vc vd ha hb2 hc hd2 => ?_⟩
  cases hd2
  dsimp only
  show tRet _ _ [some v, some (.str t), some vc, some (.int (M.yes : Int))] H
  obtain ⟨σ, eσ⟩ : ∃ σ : L2.St, σ = [some v, some (.str t), some vc, some (.int (M.yes : Int))] := ⟨_, rfl⟩
  rw [← eσ]
  have s1 : σ[1]? = some (some (.str t)) := by rw [eσ]; rfl
  have row : EvD K (tDGet (tCall (spRowsOf K) [] C8.E0 (tCons (tVar 0) (tCons (tLst (tCons (tVar 1) tNil)) tNil))) (tVar 1)) σ H (nlD (M.tw (sg t))) := fun H1 a Q q => by
      show tCall (spRowsOf K) [] C8.E0 _ σ H1 _
      refine e_callC (K := K) (ds_cons (d_var (i := 0) ⟨v, by rw [eσ]; rfl, h0⟩) (ds_cons (f_d (f_lst (ds_cons (d_var (i := 1) ⟨_, s1, .str t⟩) ds_nil) (by show 1 ≤ 100000; decide))) ds_nil)) a fun us H2 e2 hus => ?_
      refine ⟨M, [t], hus, ok, ⟨by show 1 ≤ 100; decide, fun u hu => by rw [List.mem_singleton.mp hu]; exact htl⟩, fun u hu => by rw [List.mem_singleton.mp hu]; exact hin, fun d H3 nd e3 hT => ?_⟩
      obtain ⟨kvs, k1, k2⟩ := hT
      obtain ⟨u, k3, k4⟩ := k2 t (begS_self (List.mem_singleton.mpr rfl))
      exact ⟨.str t, s1, d, u, rfl, by rw [← k3]; exact DGet.k (k := .inr t) k1, q u H3 (e2.trans e3) k4⟩
  have n1 := ok.n1
  have hl := tw_len M (sg t)
  have e0 : (M.tw (sg t))[0]? = some ((M.tw (sg t)).getD 0 0) := by rw [List.getD_eq_getElem?_getD, List.getElem?_eq_getElem (by omega)]; rfl
  refine AsKit.s_ret (K := K) (d_eqTo (d_cmpI (g := fun i j => decide (j < i)) (d_and_ (d_ixL row (d_int (i := 0)) (atI_nat (j := 0) (by rw [List.getElem?_map, e0]; rfl))) (d_var (i := 3) ⟨_, by rw [eσ]; rfl, .int _⟩)) (d_int (i := 0))) (show PyData.bool (decide ((0 : Int) < (((M.tw (sg t)).getD 0 0 &&& M.yes : Nat) : Int))) = .bool (M.said (sg t)) from ?_)) fun u H2 e2 hu2 => ?_
  · unfold LM.said
    congr 1
    exact decide_eq_decide.mpr (by omega)
  · cases hu2
    exact q H2 e2
end
end K14

set_option maxHeartbeats 4000000
set_option autoImplicit false
/-! the machine of a text. -/
namespace K14
open PySem PySem.Spec PyProof.Rows L2 AsSort AsKit AsToo AsObj AsLot AsZipG AsLcN AsLoose
open Evl (Ex Ev EvT EvA)
abbrev sLine : Stmt := top 44
theorem d_ifV {K : PySem.W.Frag} {σ : L2.St} {H : Hp} {t : TT} {ta tb : TE} {d : PyData} {b : Bool} (ht : EvT t σ H b) (h1 : b = true → EvD K ta σ H d) (h2 : b = false → EvD K tb σ H d) : EvD K (tIf t ta tb) σ H d := fun H1 a Q q => ht H1 a _ fun H2 e => by
  cases b with
  | true => exact h1 rfl H2 (a.trans e) Q fun v H3 x hv => q v H3 (e.trans x) hv
  | false => exact h2 rfl H2 (a.trans e) Q fun v H3 x hv => q v H3 (e.trans x) hv
section
variable {P : Program} {w : World} {K : PySem.W.Frag} {mg : Str → Option Value} {base : Heap} {C : Addr}
abbrev nLine : List Str := ["letters", "text", "many", "rows", "letter", "stand", "each"]
theorem sc_line : FnScope nLine ["letters", "text"] (defScope sLine) := ⟨rfl, rfl, rfl, by decide +kernel, rfl, by decide +kernel, by decide +kernel⟩
def LineOk (y t : Str) : Prop := PyData.strOk y = true ∧ y.length ≤ 1000 ∧ (sg y).Nodup ∧ t.length ≤ 300
def spLine (K : PySem.W.Frag) : Sp := fun vs H Q _ => ∃ (y t : Str), vs = [.str y, .str t] ∧ LineOk y t ∧ ∀ v H', Ex H H' → Dp K H' v (lineM y t).d → Q v H'
abbrev tEach : TE := tIf (tTest (tOp rEq (tVar 6) (tVar 4))) (tOp (rI CPow fun i j => .int (i * 2 ^ j.toNat)) (tC (.int 2)) (tVar 5)) (tC (.int 0))
abbrev tInner (K : PySem.W.Frag) : TE := tLc (iEnumG K (tCons (tVar 1) tNil)) (gTup K 2 (gCons (gName 5) (gCons (gName 6) gNil))) tYes tEach [5, 6]
theorem c_line (D : Df K mg "loose_line" sLine) (hb : Bl mg) (ne : mg "enumerate" = none) : Cl P w K mg base 1 "loose_line" (spLine K) [] := by
  refine cl_of D sc_line (fun vs H Q E ⟨y, t, h, _⟩ => by rw [h]; rfl) (fun _ _ _ _ _ _ us hl => match us, hl with | [_, _], _ => rfl) fun f cdv A outer s H vs Q E hr h => ?_
  obtain ⟨y, t, rfl, ok, q⟩ := h
  refine ⟨_, pss_cons (ps_set (i := 2) sc_line.nd rfl (.inl rfl) (pe_lenS hb (pv 1)))
    (pss_cons (ps_setLcn (te := tOp rCat (tInner K) (tLst (tCons (tC (.int 0)) tNil))) (i := 3) 4 sc_line.nd (pi_str (pv 0)) (fun _ _ _ _ _ => pts_nil)
      (fun _ _ _ _ _ => pe_op op_cat (pe_lc (own := [("stand", 5), ("each", 6)]) (g := gTup K 2 (gCons (gName 5) (gCons (gName 6) gNil))) (te := tEach) rfl sc_line.nd (pi_enumG (by rfl) ne (pa_cons (pv 1) pa_nil)) (blkOk_by (N := nLine) (own := [("stand", 5), ("each", 6)]) rfl)
          (fun _ _ _ _ _ => pg_tup rfl (pgs_cons (pg_name (i := 5) sc_line.nd rfl (.inl rfl) (.inr rfl)) (pgs_cons (pg_name (i := 6) sc_line.nd rfl (.inl rfl) (.inr rfl)) pgs_nil))) (fun _ _ _ _ _ => pts_nil) (fun _ _ _ _ _ => pe_ifExp (pt_cmpR op_eq (pv 6) (pv 4) (nomark _)) (pe_op op_shl pe_int (pv 5)) pe_int)) (pe_lst (pa_cons pe_int pa_nil)))
      (fun _ _ _ _ _ => pg_name sc_line.nd rfl (.inr rfl)) (blkOk_by (N := nLine) (sc := defScope sLine) (own := [("letter", 4)]) (by decide +kernel)) rfl rfl rfl (by rfl))
    (pss_one (ps_ret (pe_tup (pa_cons (pv 0) (pa_cons (pv 3) (pa_cons (pe_lcn 5 sc_line.nd (pi_range1 (by rfl) (hb _ (by decide +kernel)) (pa_cons (pe_op op_add (pv 2) pe_int) pa_nil)) (fun _ _ _ _ _ => pts_nil) (fun _ _ _ _ _ => pe_op op_shl pe_int (pv 5)) (fun _ _ _ _ _ => pg_name sc_line.nd rfl (.inl rfl)) (blkOk_by (N := nLine) (sc := defScope sLine) (own := [("stand", 5)]) (by decide +kernel)) rfl) (pa_cons (pe_op op_shl pe_int (pv 2)) pa_nil)))))))), ?_⟩
  have hz := ok.2.1
  have htl := ok.2.2.2
  have lt := sg_len t
  refine AsKit.q_asg (K := K) (d := .int (t.length : Int)) (d_lenS (d_var (i := 1) ⟨_, rfl, .str t⟩) (by omega)) fun v2 H1 e1 h2 => ?_
  cases h2
  obtain ⟨σ, eσ⟩ : ∃ σ : L2.St, σ = [some (.str y), some (.str t), some (.int (t.length : Int)), none, none, none, none] := ⟨_, rfl⟩
  show tSeq _ _ _ [some (.str y), some (.str t), some (.int (t.length : Int)), none, none, none, none] H1
  rw [← eσ]
  obtain ⟨M, eM⟩ : ∃ M, M = lineM y t := ⟨_, rfl⟩
  let one_ : PyData → PyData := fun d => match d with
    | .str x => nlD (((sg t).zipIdx.map fun p => if p.1 = (sg x).headD 0 then 2 * 2 ^ p.2 else 0) ++ [0])
    | _ => .none
  have rows : EvD K (tLc (iStr (tVar 0)) (gName 4) tYes (tOp rCat (tInner K) (tLst (tCons (tC (.int 0)) tNil))) [4]) σ H1 (llD (lineM y t).rows) := by
    refine n_nil (n_eqTo (n_lcS (K := K) (S := []) (z := y) (fun _ => true) one_ (d_var (i := 0) ⟨_, by rw [eσ]; rfl, .str y⟩) (by omega) fun d hd => ?_) ?_)
    · obtain ⟨c, hc, rfl⟩ := List.mem_map.mp hd
      intro D hD x H2 e2 l2 hx kk hkk
      cases hx
      obtain ⟨τ, eτ⟩ : ∃ τ, τ = (wipe σ [4]).set 4 (some (V.str ⟨#[c]⟩)) := ⟨_, rfl⟩
      show kk ((wipe σ [4]).set 4 (some (V.str ⟨#[c]⟩))) H2
      rw [← eτ]
      refine hkk τ (by rw [eτ, eσ]; rfl) (fun _ _ Q q => q _ (Ex.refl _)) fun _ => ?_
      let each_ : PyData → PyData := fun d => match d with
        | .tuple [.int i, .str x] => natD (if (sg x).headD 0 = c then 2 * 2 ^ i.toNat else 0)
        | _ => .none
      have inner : EvF K (tInner K) τ H2 (((enumD (.str t)).filter fun _ => true).map each_) := by
        refine f_lcE (K := K) (fun _ => true) each_ (ds_cons (d_var (i := 1) ⟨_, by rw [eτ, eσ]; rfl, .str t⟩) ds_nil) rfl (by show (sgns t).length ≤ 50000; unfold sgns; rw [List.length_map]; show (sg t).length ≤ 50000; omega) (fun x hx _ => ?_) fun x hx => ?_
        · obtain ⟨p, hp, rfl⟩ := List.mem_map.mp hx
          obtain ⟨z, hz2, ez⟩ := List.mem_map.mp (List.fst_mem_of_mem_zipIdx hp)
          show imm (each_ (.tuple [.int (p.2 : Int), p.1])) = true
          rw [← ez]
          rfl
        · obtain ⟨p, hp, rfl⟩ := List.mem_map.mp hx
          obtain ⟨z, hz2, ez⟩ := List.mem_map.mp (List.fst_mem_of_mem_zipIdx hp)
          intro x5 H5 e5 h5 k hk
          refine AsKit.g_two h5 fun va vb ha hb => ?_
          cases ha
          rw [← ez] at hb
          cases hb
          rw [wipe2_set (by decide)]
          refine hk _ (set2_wipe (by decide) _ _) (fun _ _ Q q => q _ (Ex.refl _)) fun _ => ?_
          have hpi : p.2 < t.length := by
            have h5 := List.mem_zipIdx_iff_getElem?.mp hp
            have := (List.getElem?_eq_some_iff.mp h5).1
            have l1 : (itemsD (.str t)).length = t.length := by show (sgns t).length = _; unfold sgns; rw [List.length_map]; exact lt
            omega
          have cond : decide ((⟨#[z]⟩ : Str) = ⟨#[c]⟩) = decide (z = c) := decide_eq_decide.mpr ⟨fun e => by cases e; rfl, fun e => by rw [e]⟩
          show EvD K tEach ((τ.set 5 (some (.int (p.2 : Int)))).set 6 (some (.str ⟨#[z]⟩))) H5 (each_ (.tuple [.int (p.2 : Int), p.1]))
          rw [← ez]
          show EvD K tEach ((τ.set 5 (some (.int (p.2 : Int)))).set 6 (some (.str ⟨#[z]⟩))) H5 (natD (if z = c then 2 * 2 ^ ((p.2 : Int)).toNat else 0))
          refine d_ifV (b := decide (z = c)) (t_ofD (K := K) (d_eqTo (d_eqS (d_var (i := 6) ⟨_, by rw [eτ, eσ]; rfl, .str _⟩) (d_var (i := 4) ⟨_, by rw [eτ, eσ]; rfl, .str _⟩)) (congrArg PyData.bool cond))) (fun hb => ?_) fun hb => ?_
          · rw [if_pos (of_decide_eq_true hb)]
            refine d_eqTo (d_opC (C := CPow) (g := fun i j => i * 2 ^ j.toNat) (d_int (i := 2)) (d_var (i := 5) ⟨_, by rw [eτ, eσ]; rfl, .int _⟩) ⟨Int.natCast_nonneg _, by omega, by decide⟩) ?_
            show PyData.int ((2 : Int) * 2 ^ ((p.2 : Int)).toNat) = .int ((2 * 2 ^ ((p.2 : Int)).toNat : Nat) : Int)
            norm_cast
          · rw [if_neg (of_decide_eq_false hb)]
            exact d_int
      have ein : ((enumD (.str t)).filter fun _ => true).map each_ = ((sg t).zipIdx.map fun p => if p.1 = c then 2 * 2 ^ p.2 else 0).map natD := by
        rw [filter_true]
        show (((sgns t).zipIdx.map fun p => PyData.tuple [.int (p.2 : Int), p.1]).map each_) = _
        unfold sgns
        rw [List.zipIdx_map, List.map_map, List.map_map, List.map_map]
        exact List.map_congr_left fun p _ => rfl
      have cat := f_cat (f_eqTo inner ein) (f_lst (K := K) (σ := τ) (H := H2) (ds_cons (d_int (i := 0)) ds_nil) (by show 1 ≤ 100000; decide)) (by
        rw [List.length_map, List.length_map, List.length_zipIdx]
        show (sg t).length + 1 ≤ 100000
        omega)
      refine n_eqTo (n_fresh cat ?_) ?_
      · refine immAll_of fun d hd => ?_
        rcases List.mem_append.mp hd with hd | hd
        · obtain ⟨n, _, rfl⟩ := List.mem_map.mp hd
          rfl
        · rw [List.mem_singleton.mp hd]
          rfl
      · show PyData.list _ = nlD (((sg t).zipIdx.map fun p => if p.1 = (sg (⟨#[c]⟩ : Str)).headD 0 then 2 * 2 ^ p.2 else 0) ++ [0])
        show PyData.list _ = PyData.list (List.map natD _)
        rw [List.map_append]
        rfl
    · rw [filter_true]
      show PyData.list (((sg y).map fun c => PyData.str ⟨#[c]⟩).map one_) = .list (((sg y).map _).map nlD)
      rw [List.map_map, List.map_map]
      rfl
  refine AsKit.q_asg (K := K) rows fun v3 H2 e2 h3 => ?_
  have a2 : At K (σ.set 3 (some v3)) H2 2 (.int (t.length : Int)) := ⟨_, by rw [eσ]; rfl, .int _⟩
  have fre : EvD K (tLc (iRng1 (tCons (tOp (rI0 fun i j => .int (i + j)) (tVar 2) (tC (.int 1))) tNil)) (gName 5) tYes (tOp (rI CPow fun i j => .int (i * 2 ^ j.toNat)) (tC (.int 1)) (tVar 5)) [5]) (σ.set 3 (some v3)) H2 (nlD (lineM y t).free) := by
    let two_ : PyData → PyData := fun d => match d with
      | .int i => natD (2 ^ i.toNat)
      | _ => .none
    refine d_eqTo (AsKit.d_lcR1 (K := K) (hi := (t.length : Int) + 1) (fun _ => true) two_ (ds_cons (d_arI (g := fun i j => i + j) (d_var a2) (d_int (i := 1))) ds_nil) (by omega) (fun d hd _ => ?_) fun i hi => ?_) ?_
    · obtain ⟨i, _, rfl⟩ := List.mem_map.mp hd
      rfl
    · intro x H5 e5 hx k hk
      cases hx
      show k ((wipe (σ.set 3 (some v3)) [5]).set 5 (some (.int (0 + (i : Int))))) H5
      refine hk _ (by rw [eσ]; rfl) (fun _ _ Q q => q _ (Ex.refl _)) fun _ => ?_
      refine d_eqTo (d_opC (C := CPow) (g := fun i j => i * 2 ^ j.toNat) (d_int (i := 1)) (d_var (i := 5) ⟨_, by rw [eσ]; rfl, .int _⟩) ⟨by omega, by omega, by decide⟩) ?_
      show PyData.int ((1 : Int) * 2 ^ (0 + (i : Int)).toNat) = .int ((2 ^ (0 + (i : Int)).toNat : Nat) : Int)
      rw [Int.one_mul]
      norm_cast
    · rw [filter_true]
      have en : ((t.length : Int) + 1).toNat = t.length + 1 := by omega
      show PyData.list ((((List.range ((t.length : Int) + 1).toNat)).map fun (i : Nat) => PyData.int (0 + (i : Int))).map two_) = .list (((List.range (t.length + 1)).map fun i => 2 ^ i).map natD)
      rw [en, List.map_map, List.map_map]
      refine congrArg PyData.list (List.map_congr_left fun i _ => ?_)
      show natD (2 ^ (0 + (i : Int)).toNat) = natD (2 ^ i)
      rw [Int.zero_add, Int.toNat_natCast]
  refine AsKit.s_ret (K := K) (d_tup (ds_cons (d_var (i := 0) ⟨_, by rw [eσ]; rfl, .str y⟩) (ds_cons (d_var (i := 3) ⟨v3, by rw [eσ]; rfl, h3⟩) (ds_cons fre (ds_cons (d_eqTo (d_opC (C := CPow) (g := fun i j => i * 2 ^ j.toNat) (d_int (i := 1)) (d_var a2) ⟨Int.natCast_nonneg _, by omega, by decide⟩) (show PyData.int ((1 : Int) * 2 ^ ((t.length : Int)).toNat) = natD (lineM y t).yes from ?_)) ds_nil)))) (by show 4 ≤ 100000; decide)) fun u H3 e3 hu => q u H3 ((e1.trans e2).trans e3) hu
  show PyData.int ((1 : Int) * 2 ^ ((t.length : Int)).toNat) = .int ((2 ^ t.length : Nat) : Int)
  rw [Int.one_mul, Int.toNat_natCast]
  norm_cast
end
end K14

set_option maxHeartbeats 4000000
set_option autoImplicit false
/-! checks of two texts, as they raise. -/
namespace K14
open PySem PySem.Spec PyProof.Rows L2 AsSort AsKit AsToo AsObj AsLot AsZipG AsLcN AsLoose
open Evl (Ex Ev EvT EvA)
abbrev sLed : Stmt := top 83
abbrev sTextsOf : Stmt := top 84
section
variable {P : Program} {w : World} {K : PySem.W.Frag} {mg : Str → Option Value} {base : Heap} {CL CK CT CM CR : Addr}
theorem sc_textsof : FnScope ["letters", "kinds", "text", "other"] ["letters", "kinds", "text", "other"] (defScope sTextsOf) := ⟨rfl, rfl, rfl, by decide +kernel, rfl, by decide +kernel, by decide +kernel⟩
/-- the class of the first wrong one's error -/
def WBad (CL CK CT : Addr) (l k t o : PyData) (C : Addr) : Prop := Bad3 CL CK CT l k t C ∨ (C = CT ∧ Okay l k t ∧ ∃ y, l = .str y ∧ Tx o ∧ withinD y 40 o = false)
def spX4 (K : PySem.W.Frag) (CL CK CT : Addr) : Sp := fun vs H Q E => ∃ l k t o, DpAll K H vs [l, k, t, o] ∧ ((∃ C, WBad CL CK CT l k t o C ∧ ∀ H', Ex H H' → E (.ref C) none H') ∨ (Okay l k t ∧ ∃ y, l = .str y ∧ Tx o ∧ withinD y 40 o = true ∧ ∀ H', Ex H H' → Q .non H'))
theorem x_check_texts_of (D : Df K mg "check_texts_of" sTextsOf) (C1 : Klx P w K mg base 2 "check_letters" ["letters"] (spXLetters K CL)) (C2 : Klx P w K mg base 5 "check_kinds" ["letters", "kinds"] (spXKinds K CK)) (C3 : Klx P w K mg base 3 "check_text" ["letters", "text"] (spXText K CT)) :
    Klx P w K mg base 6 "check_texts_of" ["letters", "kinds", "text", "other"] (spX4 K CL CK CT) := by
  refine klx_of D sc_textsof (fun vs H Q E ⟨l, k, t, o, h, _⟩ => dpAll_len h) (fun _ _ _ _ _ _ us hl => match us, hl with | [_, _, _, _], _ => rfl) fun f cdv A outer s H vs Q E hr h => ?_
  obtain ⟨l, k, t, o, hd, h⟩ := h
  obtain ⟨v, v2, v3, v4, rfl, h0, h1, h2, h3⟩ := dp4 hd
  obtain ⟨f1, fd1, F1, m1, k1, b1⟩ := C1
  obtain ⟨f2, fd2, F2, m2, k2, b2⟩ := C2
  obtain ⟨f3, fd3, F3, m3, k3, b3⟩ := C3
  have ck : Ck3 CL CK CT l k t H E (fun H' => ∃ y, l = .str y ∧ Tx o ∧ (withinD y 40 o = true → ∀ H'', Ex H' H'' → Q .non H'') ∧ (withinD y 40 o = false → ∀ H'', Ex H' H'' → E (.ref CT) none H'')) := by
    rcases h with ⟨C, b | ⟨rfl, ok, y, e, tx, no⟩, q⟩ | ⟨ok, y, e, tx, yes, q⟩
    · exact ck3_bad b q
    · exact ck3_ok ok fun H' x => ⟨y, e, tx, (fun z => by rw [no] at z; cases z), fun _ H'' x2 => q H'' (x.trans x2)⟩
    · exact ck3_ok ok fun H' x => ⟨y, e, tx, (fun _ H'' x2 => q H'' (x.trans x2)), fun z => by rw [yes] at z; cases z⟩
  obtain ⟨o1, o2, o3⟩ := ck
  refine ⟨_, pss_cons (ps_expr (pe_call F1 (hr.mono (by decide)) (by rfl) m1 k1 b1 .nil (passes_call (takes_of rfl rfl rfl rfl) fun _ _ _ _ h => h) (pa_cons (pv 0) pa_nil)))
    (pss_cons (ps_expr (pe_call F2 (hr.mono (by decide)) (by rfl) m2 k2 b2 .nil (passes_call (takes_of rfl rfl rfl rfl) fun _ _ _ _ h => h) (pa_cons (pv 0) (pa_cons (pv 1) pa_nil))))
    (pss_cons (ps_expr (pe_call F3 (hr.mono (by decide)) (by rfl) m3 k3 b3 .nil (passes_call (takes_of rfl rfl rfl rfl) fun _ _ _ _ h => h) (pa_cons (pv 0) (pa_cons (pv 2) pa_nil))))
    (pss_one (ps_expr (pe_call F3 (hr.mono (by decide)) (by rfl) m3 k3 b3 .nil (passes_call (takes_of rfl rfl rfl rfl) fun _ _ _ _ h => h) (pa_cons (pv 0) (pa_cons (pv 3) pa_nil))))))), ?_⟩
  refine ⟨v, rfl, [l], .cons h0 .nil, ⟨l, rfl, o1⟩, fun ok H1 e1 => ?_, fun no H1 e1 => o2 no H1 e1⟩
  obtain ⟨y, rfl, hy⟩ := letters_str ok
  obtain ⟨p1, p2, p3⟩ := o3 y rfl hy
  refine ⟨v, rfl, v2, rfl, [.str y, k], .cons (dp_ex e1 h0) (.cons (dp_ex e1 h1) .nil), ⟨y, k, rfl, p1⟩, fun ok2 H2 e2 => ?_, fun no H2 e2 => p2 no H2 (e1.trans e2)⟩
  obtain ⟨r1, r2, r3⟩ := p3 ok2
  have e12 := e1.trans e2
  refine ⟨v, rfl, v3, rfl, [.str y, t], .cons (dp_ex e12 h0) (.cons (dp_ex e12 h2) .nil), ⟨y, t, rfl, r1⟩, fun ok3 H3 e3 => ?_, fun no H3 e3 => r2 no H3 (e12.trans e3)⟩
  obtain ⟨y', ey, tx, q1, q2⟩ := r3 ok3 H3 (e12.trans e3)
  cases ey
  exact ⟨v, rfl, v4, rfl, [.str y, o], .cons (dp_ex (e12.trans e3) h0) (.cons (dp_ex (e12.trans e3) h3) .nil), ⟨y, o, rfl, tx⟩, fun ok4 H4 e4 => q1 ok4 H4 e4, fun no H4 e4 => q2 no H4 e4⟩
abbrev nLed : List Str := ["texts", "text"]
theorem sc_led : FnScope nLed ["texts"] (defScope sLed) := ⟨rfl, rfl, rfl, by decide +kernel, rfl, by decide +kernel, by decide +kernel⟩
def spXLed (K : PySem.W.Frag) (CM : Addr) : Sp := fun vs H Q E => ∃ ts : List Str, DpAll K H vs [.tuple (ts.map PyData.str)] ∧ ts.length ≤ 10 ∧ (∀ t ∈ ts, t.length ≤ 1000) ∧
  ((∃ t ∈ ts, 8 < t.length) → ∀ H' m, Ex H H' → H' m = none → E (.ref CM) (some m) (upd H' m (.xd [("most", .int 8)]))) ∧ ((∀ t ∈ ts, t.length ≤ 8) → ∀ H', Ex H H' → Q .non H')
theorem x_led (D : Df K mg "check_led" sLed) (hb : Bl mg) (g8 : Gn mg "LONGEST_LED" 8) (cM : Et P w K mg base "TooLong" CM) : Klx P w K mg base 3 "check_led" ["texts"] (spXLed K CM) := by
  refine klx_of D sc_led (fun vs H Q E ⟨ts, h, _⟩ => dpAll_len h) (fun _ _ _ _ _ _ us hl => match us, hl with | [_], _ => rfl) fun f cdv A outer s H vs Q E hr h => ?_
  obtain ⟨ts, hd, hn, hl, qe, q⟩ := h
  obtain ⟨v, rfl, h0⟩ := dp1 hd
  refine ⟨_, pss_one (ps_if (pt_val (pe_anyL rfl hb (pe_lcn 1 sc_led.nd (pi_tup (pv 0)) (fun _ _ _ _ _ => pts_nil) (fun _ _ _ _ _ => pe_cmpR op_gt (pe_lenS hb (pv 1)) (pe_gn g8) (nomark _)) (fun _ _ _ _ _ => pg_name sc_led.nd rfl (.inl rfl)) (blkOk_by (N := nLed) (sc := defScope sLed) (own := [("text", 1)]) (by decide +kernel)) rfl))) (pss_one (ps_raiseT cM (hr.mono (by decide)) rfl (takes_of rfl rfl rfl rfl) (by rfl) (pe_gn g8))) pss_nil), ?_⟩
  let lg : PyData → PyData := fun d => match d with
    | .str s => .bool (decide ((8 : Int) < (s.length : Int)))
    | _ => .none
  have tst := t_ofB (d_any (K := K) (bs := ts.map fun s => decide ((8 : Int) < (s.length : Int))) (d_eqTo (AsKit.d_lcT (K := K) (σ := start nLed [v]) (H := H) (gt := gName 1) (t := tYes) (te := tOp (rI0 fun i j => .bl (decide (j < i))) (tCB rLenTx (tCons (tVar 1) tNil)) (tC (.int 8))) (vs := [1]) (fun _ => true) lg (d_var (i := 0) ⟨v, rfl, h0⟩) (by rw [List.length_map]; omega) (fun y hy _ => by obtain ⟨t, _, rfl⟩ := List.mem_map.mp hy; rfl) fun y hy => by
    obtain ⟨t, ht, rfl⟩ := List.mem_map.mp hy
    intro x H1 x1 hx kk hkk
    cases hx
    refine hkk [some v, some (.str t)] rfl (fun _ _ Q q => q _ (Ex.refl _)) fun _ => ?_
    exact d_cmpI (g := fun i j => decide (j < i)) (d_lenS (d_var (i := 1) ⟨_, rfl, .str t⟩) (by have := hl t ht; omega)) d_int) (by rw [filter_true, List.map_map, List.map_map]; rfl)))
  refine Evl.s_when tst (fun hb1 H1 e1 => ?_) fun hb1 H1 e1 => ?_
  · obtain ⟨b, hb2, hb3⟩ := List.any_eq_true.mp hb1
    obtain ⟨t, ht, rfl⟩ := List.mem_map.mp hb2
    have z := of_decide_eq_true hb3
    exact inT_of (by decide) fun m nm => qe ⟨t, ht, by omega⟩ H1 m e1 nm
  · refine q (fun t ht => ?_) H1 e1
    have z := List.any_eq_false.mp hb1 _ (List.mem_map.mpr ⟨t, ht, rfl⟩)
    have : (t.length : Int) ≤ 8 := by simpa using z
    omega
end
end K14

set_option maxHeartbeats 4000000
set_option autoImplicit false
/-! ways, as they raise; no way between a text and another without kinds. -/
namespace K14
open PySem PySem.Spec PyProof.Rows L2 AsSort AsKit AsToo AsObj AsLot AsZipG AsLcN AsLoose
open Evl (Ex Ev EvT EvA)
abbrev sCounted : Stmt := top 72
abbrev sBetween : Stmt := top 85
abbrev sFewest : Stmt := top 86
abbrev sWay : Stmt := top 87
abbrev sOrigin : Stmt := top 88
abbrev sLeads : Stmt := top 89
section
variable {P : Program} {w : World} {K : PySem.W.Frag} {mg : Str → Option Value} {base : Heap} {CL CK CT CM CR : Addr}
theorem sc_counted : FnScope ["machine", "kinds", "goal", "counts"] ["machine", "kinds", "goal"] (defScope sCounted) := ⟨rfl, rfl, rfl, by decide +kernel, rfl, by decide +kernel, by decide +kernel⟩
def spWcN (K : PySem.W.Frag) : Sp := fun vs H Q _ => ∃ (M : LM) (ks : List (Str × Str)) (u : Str), DpAll K H vs [M.d, ksD ks, .str u] ∧ M.Ok ∧ KsOk M ks ∧ u.length ≤ 300 ∧ (∀ c ∈ sg u, c ∈ sg M.y) ∧ (∀ k, (M.sprs ks k).spr ks = M.sprs ks k → (M.sprs ks k).said (sg u) = false) ∧ ∀ H', Ex H H' → Q .non H'
theorem c_counted (D : Df K mg "ways_counted" sCounted) (C1 : Cl P w K mg base 6 "spread" (spSpread K) []) (C2 : Cl P w K mg base 5 "is_said" (spSaid K) []) : Cl P w K mg base 7 "ways_counted" (spWcN K) [] := by
  refine cl_of D sc_counted (fun vs H Q E ⟨M, ks, u, h, _⟩ => dpAll_len h) (fun _ _ _ _ _ _ us hl => match us, hl with | [_, _, _], _ => rfl) fun f cdv A outer s H vs Q E hr h => ?_
  obtain ⟨M, ks, u, hd, ok, kok, hul, hin, hno, q⟩ := h
  obtain ⟨v, v1, v2, rfl, h0, h1, h2⟩ := dp3 hd
  cases h2
  refine ⟨_, pss_cons (ps_if (pt_not (pt_val (C8.pe_c C2 hr (by decide) (by rfl) (pa_cons (C8.pe_c C1 hr (by decide) (by rfl) (pa_cons (pv 0) (pa_cons (pv 1) pa_nil))) (pa_cons (pv 2) pa_nil))))) (pss_one (ps_ret pe_non)) pss_nil) pss_no, ?_⟩
  have tst : EvD K (tCall (spSaid K) [] C8.E0 (tCons (tCall (spSpread K) [] C8.E0 (tCons (tVar 0) (tCons (tVar 1) tNil))) (tCons (tVar 2) tNil))) (start ["machine", "kinds", "goal", "counts"] [v, v1, .str u]) H (.bool false) := fun H1 a Q q => by
    show tCall (spSpread K) [] C8.E0 _ _ H1 _
    refine e_callC (K := K) (ds_cons (d_var (i := 0) ⟨v, rfl, h0⟩) (ds_cons (d_var (i := 1) ⟨v1, rfl, h1⟩) ds_nil)) a fun us H2 e2 hus => ⟨M, ks, hus, ok, kok, fun x H3 k e3 hx hfix => ?_⟩
    refine ⟨.str u, rfl, ?_⟩
    show spSaid K [x, .str u] H3 Q C8.E0
    have same := sprs_same M ks k
    refine ⟨M.sprs ks k, u, .cons hx (.cons (.str u) .nil), sprs_ok ok k, hul, by rw [same.1]; exact hin, fun H4 e4 => ?_⟩
    rw [hno k hfix]
    exact q _ H4 ((e2.trans e3).trans e4) (.bl false)
  refine Evl.q_when (b := true) (Evl.et_not (t_ofB tst)) (fun _ H1 e1 => ?_) fun z => nomatch z
  exact q H1 e1
theorem sc_between : FnScope ["letters", "kinds", "text", "other"] ["letters", "kinds", "text", "other"] (defScope sBetween) := ⟨rfl, rfl, rfl, by decide +kernel, rfl, by decide +kernel, by decide +kernel⟩
def spXW (K : PySem.W.Frag) (CL CK CT CM : Addr) : Sp := fun vs H Q E => ∃ l k t o, DpAll K H vs [l, k, t, o] ∧ ((∃ C, WBad CL CK CT l k t o C ∧ ∀ H', Ex H H' → E (.ref C) none H') ∨
  ∃ (y z u : Str) (ps : List (Str × Str)), l = .str y ∧ k = ksD ps ∧ t = .str z ∧ o = .str u ∧ Okay l k t ∧ u.length ≤ 40 ∧ allIn y u = true ∧
    (((8 < z.length ∨ 8 < u.length) ∧ ∀ H' m, Ex H H' → H' m = none → E (.ref CM) (some m) (upd H' m (.xd [("most", .int 8)]))) ∨
     (z.length ≤ 8 ∧ u.length ≤ 8 ∧ ps = [] ∧ PyData.strOk y = true ∧ y.length ≤ 1000 ∧ (sg y).Nodup ∧ ((z = "" ∧ 0 < u.length) ∨ (u = "" ∧ 0 < z.length)) ∧ ∀ H', Ex H H' → Q .non H')))
theorem within_of {y u : Str} (h1 : u.length ≤ 40) (h2 : allIn y u = true) : withinD y 40 (.str u) = true := by
  show withinS y u 40 = true
  unfold withinS
  rw [h2, decide_eq_true (by omega : (u.length : Int) ≤ 40)]
  rfl
theorem x_between (D : Df K mg "ways_between" sBetween) (C1 : Klx P w K mg base 6 "check_texts_of" ["letters", "kinds", "text", "other"] (spX4 K CL CK CT)) (C2 : Klx P w K mg base 3 "check_led" ["texts"] (spXLed K CM)) (C3 : Cl P w K mg base 1 "loose_line" (spLine K) []) (C4 : Cl P w K mg base 7 "ways_counted" (spWcN K) []) :
    Klx P w K mg base 8 "ways_between" ["letters", "kinds", "text", "other"] (spXW K CL CK CT CM) := by
  refine klx_of D sc_between (fun vs H Q E ⟨l, k, t, o, h, _⟩ => dpAll_len h) (fun _ _ _ _ _ _ us hl => match us, hl with | [_, _, _, _], _ => rfl) fun f cdv A outer s H vs Q E hr h => ?_
  obtain ⟨l, k, t, o, hd, h⟩ := h
  obtain ⟨v, v2, v3, v4, rfl, h0, h1, h2, h3⟩ := dp4 hd
  obtain ⟨f1, fd1, F1, m1, k1, b1⟩ := C1
  obtain ⟨f2, fd2, F2, m2, k2, b2⟩ := C2
  refine ⟨_, pss_cons (ps_expr (pe_call F1 (hr.mono (by decide)) (by rfl) m1 k1 b1 .nil (passes_call (takes_of rfl rfl rfl rfl) fun _ _ _ _ h => h) (pa_cons (pv 0) (pa_cons (pv 1) (pa_cons (pv 2) (pa_cons (pv 3) pa_nil))))))
    (pss_cons (ps_expr (pe_call F2 (hr.mono (by decide)) (by rfl) m2 k2 b2 .nil (passes_call (takes_of rfl rfl rfl rfl) fun _ _ _ _ h => h) (pa_cons (pe_tup (pa_cons (pv 2) (pa_cons (pv 3) pa_nil))) pa_nil)))
    (pss_one (ps_ret (C8.pe_c C4 hr (by decide) (by rfl) (pa_cons (C8.pe_c C3 hr (by decide) (by rfl) (pa_cons (pv 0) (pa_cons (pv 2) pa_nil))) (pa_cons (pv 1) (pa_cons (pv 3) pa_nil))))))), ?_⟩
  rcases h with ⟨C, b, qe⟩ | ⟨y, z, u, ps, rfl, rfl, rfl, rfl, ok, hul, hui, hh⟩
  · exact ⟨v, rfl, v2, rfl, v3, rfl, v4, rfl, l, k, t, o, hd, .inl ⟨C, b, qe⟩⟩
  · obtain ⟨y', z', ps', ey, ek, et, o0, o1, o2, o3, o4, o5, o6, o7⟩ := id ok
    cases ey
    cases et
    refine ⟨v, rfl, v2, rfl, v3, rfl, v4, rfl, _, _, _, _, hd, .inr ⟨ok, y, rfl, fun x e => by cases e; omega, within_of hul hui, fun H1 e1 => ?_⟩⟩
    refine ⟨v3, rfl, v4, rfl, Evl.sz_of (by show 2 ≤ 100000; decide), fun p np => ?_⟩
    have ep := Ex.new (o := .tup [v3, v4]) np
    have htup : Dp K (upd H1 p (.tup [v3, v4])) (.ref p) (.tuple ([z, u].map PyData.str)) := .tup (Evl.st_of upd_same) (.cons (dp_ex (e1.trans ep) h2) (.cons (dp_ex (e1.trans ep) h3) .nil))
    refine ⟨[z, u], .cons htup .nil, by show 2 ≤ 10; decide, fun t ht => ?_, fun ⟨t, ht, hlt⟩ H2 m e2 nm => ?_, fun hle H2 e2 => ?_⟩
    · rcases List.mem_cons.mp ht with rfl | ht
      · omega
      · rw [List.mem_singleton.mp ht]; omega
    · rcases hh with ⟨_, qe⟩ | ⟨l1, l2, _⟩
      · exact qe H2 m ((e1.trans ep).trans e2) nm
      · rcases List.mem_cons.mp ht with rfl | ht
        · omega
        · rw [List.mem_singleton.mp ht] at hlt; omega
    · have lz := hle z (List.mem_cons_self ..)
      have lu := hle u (List.mem_cons_of_mem _ (List.mem_cons_self ..))
      rcases hh with ⟨hl, _⟩ | ⟨_, _, rfl, so, yl, nd, hcase, qn⟩
      · omega
      have lok := line_ok (y := y) (t := z) so yl nd (by omega)
      have e12 := (e1.trans ep).trans e2
      cases h0
      cases h2
      show tCall (spWcN K) [] C8.E0 (tCons (tCall (spLine K) [] C8.E0 (tCons (tVar 0) (tCons (tVar 2) tNil))) (tCons (tVar 1) (tCons (tVar 3) tNil))) (start ["letters", "kinds", "text", "other"] [.str y, v2, .str z, v4]) H2 Q
      show tCall (spLine K) [] C8.E0 _ _ H2 _
      refine e_callC (K := K) (ds := [.str y, .str z]) (ds_cons (d_var (i := 0) ⟨.str y, rfl, .str y⟩) (ds_cons (d_var (i := 2) ⟨.str z, rfl, .str z⟩) ds_nil)) (Ex.refl H2) fun us H3 e3 hus => ?_
      obtain ⟨x, x', rfl, hx, hx'⟩ := dp2 hus
      cases hx
      cases hx'
      refine ⟨y, z, rfl, ⟨so, yl, nd, by omega⟩, fun xm H4 e4 hm => ?_⟩
      refine ⟨v2, rfl, v4, rfl, ?_⟩
      have e34 := e3.trans e4
      show spWcN K [xm, v2, v4] H4 Q C8.E0
      refine ⟨lineM y z, [], u, .cons hm (.cons (dp_ex (e12.trans e34) h1) (.cons (dp_ex (e12.trans e34) h3) .nil)), lok, ⟨Nat.zero_le _, fun k hk => absurd hk List.not_mem_nil⟩, by omega, fun c hc => of_decide_eq_true (List.all_eq_true.mp hui c hc), fun k _ => ?_, fun H5 e5 => qn H5 ((e12.trans e34).trans e5)⟩
      rw [line_sprs lok k]
      rcases hcase with ⟨rfl, hu⟩ | ⟨rfl, hz⟩
      · exact line_only_empty lok fun e => by
          have := sg_len u
          rw [e] at this
          simp at this
          omega
      · exact line_no_empty hz
end
end K14

set_option maxHeartbeats 4000000
set_option autoImplicit false
/-! fewest, way, origin, leads, as they raise. -/
namespace K14
open PySem PySem.Spec PyProof.Rows L2 AsSort AsKit AsToo AsObj AsLot AsZipG AsLcN AsLoose
open Evl (Ex Ev EvT EvA)
abbrev sChkReader : Stmt := top 55
section
variable {P : Program} {w : World} {K : PySem.W.Frag} {mg : Str → Option Value} {base : Heap} {CL CK CT CM CR : Addr}
abbrev p4 : List Str := ["letters", "kinds", "text", "other"]
theorem sc_fewest : FnScope ["letters", "kinds", "text", "other", "counts"] p4 (defScope sFewest) := ⟨rfl, rfl, rfl, by decide +kernel, rfl, by decide +kernel, by decide +kernel⟩
theorem x_fewest (D : Df K mg "fewest" sFewest) (C1 : Klx P w K mg base 8 "ways_between" p4 (spXW K CL CK CT CM)) : Klx P w K mg base 9 "fewest" p4 (spXW K CL CK CT CM) := by
  refine klx_of D sc_fewest (fun vs H Q E ⟨l, k, t, o, h, _⟩ => dpAll_len h) (fun _ _ _ _ _ _ us hl => match us, hl with | [_, _, _, _], _ => rfl) fun f cdv A outer s H vs Q E hr h => ?_
  obtain ⟨l, k, t, o, hd, h⟩ := h
  obtain ⟨v, v2, v3, v4, rfl, h0, h1, h2, h3⟩ := dp4 hd
  obtain ⟨f1, fd1, F1, m1, k1, b1⟩ := C1
  refine ⟨_, pss_cons (ps_set (i := 4) sc_fewest.nd rfl (.inl rfl) (pe_call F1 (hr.mono (by decide)) (by rfl) m1 k1 b1 .nil (passes_call (takes_of rfl rfl rfl rfl) fun _ _ _ _ h => h) (pa_cons (pv 0) (pa_cons (pv 1) (pa_cons (pv 2) (pa_cons (pv 3) pa_nil))))))
    (pss_one (ps_ret (pe_ifExp (pt_cmp (pc_isN (pv 4))) pe_non pe_no))), ?_⟩
  refine ⟨v, rfl, v2, rfl, v3, rfl, v4, rfl, l, k, t, o, hd, ?_⟩
  rcases h with h | ⟨y, z, u, ps, rfl, rfl, rfl, rfl, ok, hul, hui, hh⟩
  · exact .inl h
  · refine .inr ⟨y, z, u, ps, rfl, rfl, rfl, rfl, ok, hul, hui, ?_⟩
    rcases hh with hh | ⟨a1, a2, a3, a4, a5, a6, a7, qn⟩
    · exact .inl hh
    · refine .inr ⟨a1, a2, a3, a4, a5, a6, a7, fun H1 e1 => ?_⟩
      refine ⟨.non, rfl, ?_⟩
      exact ⟨true, by simp, qn H1 e1⟩
/-- too long, or wrong -/
def spXWay (K : PySem.W.Frag) (CL CK CT CM : Addr) : Sp := fun vs H Q E => ∃ l k t o, DpAll K H vs [l, k, t, o] ∧ ((∃ C, WBad CL CK CT l k t o C ∧ ∀ H', Ex H H' → E (.ref C) none H') ∨
  ∃ (y z u : Str) (ps : List (Str × Str)), l = .str y ∧ k = ksD ps ∧ t = .str z ∧ o = .str u ∧ Okay l k t ∧ u.length ≤ 40 ∧ allIn y u = true ∧ (8 < z.length ∨ 8 < u.length) ∧ ∀ H' m, Ex H H' → H' m = none → E (.ref CM) (some m) (upd H' m (.xd [("most", .int 8)])))
theorem sc_way : FnScope ["letters", "kinds", "text", "other", "counts", "_", "row"] p4 (defScope sWay) := ⟨rfl, rfl, rfl, by decide +kernel, rfl, by decide +kernel, by decide +kernel⟩
theorem x_way (D : Df K mg "way" sWay) (C1 : Klx P w K mg base 8 "ways_between" p4 (spXW K CL CK CT CM)) : Klx P w K mg base 9 "way" p4 (spXWay K CL CK CT CM) := by
  refine klx_of D sc_way (fun vs H Q E ⟨l, k, t, o, h, _⟩ => dpAll_len h) (fun _ _ _ _ _ _ us hl => match us, hl with | [_, _, _, _], _ => rfl) fun f cdv A outer s H vs Q E hr h => ?_
  obtain ⟨l, k, t, o, hd, h⟩ := h
  obtain ⟨v, v2, v3, v4, rfl, h0, h1, h2, h3⟩ := dp4 hd
  obtain ⟨f1, fd1, F1, m1, k1, b1⟩ := C1
  refine ⟨_, pss_cons (ps_set (i := 4) sc_way.nd rfl (.inl rfl) (pe_call F1 (hr.mono (by decide)) (by rfl) m1 k1 b1 .nil (passes_call (takes_of rfl rfl rfl rfl) fun _ _ _ _ h => h) (pa_cons (pv 0) (pa_cons (pv 1) (pa_cons (pv 2) (pa_cons (pv 3) pa_nil)))))) pss_no, ?_⟩
  refine ⟨v, rfl, v2, rfl, v3, rfl, v4, rfl, l, k, t, o, hd, ?_⟩
  rcases h with h | ⟨y, z, u, ps, rfl, rfl, rfl, rfl, ok, hul, hui, hh⟩
  · exact .inl h
  · exact .inr ⟨y, z, u, ps, rfl, rfl, rfl, rfl, ok, hul, hui, .inl hh⟩
def spXLeads (K : PySem.W.Frag) (CL CK CT : Addr) : Sp := fun vs H Q E => ∃ l k t r o, DpAll K H vs [l, k, t, r, o] ∧ ∃ C, WBad CL CK CT l k t o C ∧ ∀ H', Ex H H' → E (.ref C) none H'
abbrev p5 : List Str := ["letters", "kinds", "text", "row", "other"]
theorem sc_leads : FnScope ["letters", "kinds", "text", "row", "other", "now", "deed"] p5 (defScope sLeads) := ⟨rfl, rfl, rfl, by decide +kernel, rfl, by decide +kernel, by decide +kernel⟩
theorem x_leads (D : Df K mg "leads" sLeads) (C1 : Klx P w K mg base 6 "check_texts_of" p4 (spX4 K CL CK CT)) : Klx P w K mg base 9 "leads" p5 (spXLeads K CL CK CT) := by
  refine klx_of (k := 8) D sc_leads (fun vs H Q E ⟨l, k, t, r, o, h, _⟩ => dpAll_len h) (fun _ _ _ _ _ _ us hl => match us, hl with | [_, _, _, _, _], _ => rfl) fun f cdv A outer s H vs Q E hr h => ?_
  obtain ⟨l, k, t, r, o, hd, C, b, qe⟩ := h
  obtain ⟨v, v2, v3, v4, v5, rfl, h0, h1, h2, h3, h4⟩ : ∃ v v2 v3 v4 v5, vs = [v, v2, v3, v4, v5] ∧ Dp K H v l ∧ Dp K H v2 k ∧ Dp K H v3 t ∧ Dp K H v4 r ∧ Dp K H v5 o := by
    cases hd with
    | cons a hd =>
      obtain ⟨b, c, d, e, rfl, x, y, z, u⟩ := dp4 hd
      exact ⟨_, _, _, _, _, rfl, a, x, y, z, u⟩
  obtain ⟨f1, fd1, F1, m1, k1, b1⟩ := C1
  refine ⟨_, pss_cons (ps_expr (pe_call F1 (hr.mono (by decide)) (by rfl) m1 k1 b1 .nil (passes_call (takes_of rfl rfl rfl rfl) fun _ _ _ _ h => h) (pa_cons (pv 0) (pa_cons (pv 1) (pa_cons (pv 2) (pa_cons (pv 4) pa_nil)))))) pss_no, ?_⟩
  exact ⟨v, rfl, v2, rfl, v3, rfl, v5, rfl, l, k, t, o, .cons h0 (.cons h1 (.cons h2 (.cons h4 .nil))), .inl ⟨C, b, qe⟩⟩
theorem sc_chkreader : FnScope ["reader"] ["reader"] (defScope sChkReader) := ⟨rfl, rfl, rfl, by decide +kernel, rfl, by decide +kernel, by decide +kernel⟩
theorem x_check_reader {C : Addr} (D : Df K mg "check_reader" sChkReader) (c : Ec K mg "BadReader" C) (C1 : Cl P w K mg base 3 "is_reader" (spIsReader K) []) : Klx P w K mg base 4 "check_reader" ["reader"] (spXReader K C) := by
  refine klx_of D sc_chkreader (len_ck fun ds ⟨d, h, _⟩ => by rw [h]; rfl) (fun _ _ _ _ _ _ us hl => match us, hl with | [_], _ => rfl) fun f cdv A outer s H vs Q E hr h => ?_
  obtain ⟨ds, hd, ⟨d, rfl, ht⟩, q1, q2⟩ := h
  obtain ⟨v, rfl, h0⟩ := dp1 hd
  refine ⟨_, pss_one (ps_if (pt_not (pt_val (C8.pe_c C1 hr (by decide) (by rfl) (pa_cons (pv 0) pa_nil)))) (pss_one (ps_raise0 c rfl (takes_of rfl rfl rfl rfl) (by rfl))) pss_nil), ?_⟩
  exact Evl.s_if (b := !(readerD d)) (Evl.et_not (t_ofB (d_call (ds_cons (d_var ⟨_, rfl, h0⟩) ds_nil) ⟨d, rfl, ht⟩))) (fun hb1 H1 e1 => q2 ((Bool.not_eq_true' _).mp hb1) H1 e1) fun hb1 H1 e1 => q1 ((Bool.not_eq_false' _).mp hb1) H1 e1
/-- what is wrong with a reader, kinds, a text -/
def OBad (CR CK CT : Addr) (r k t : PyData) (C : Addr) : Prop := (C = CR ∧ TxR r ∧ readerD r = false) ∨ ∃ M : Mach, r = M.d ∧ M.Ok ∧ ((C = CK ∧ TxL k ∧ lotD M.y k = false) ∨ (C = CT ∧ TxL k ∧ lotD M.y k = true ∧ Tx t ∧ withinD M.y 40 t = false))
def spXOrigin (K : PySem.W.Frag) (CR CK CT CM : Addr) : Sp := fun vs H Q E => ∃ r k t, DpAll K H vs [r, k, t] ∧ ((∃ C, OBad CR CK CT r k t C ∧ ∀ H', Ex H H' → E (.ref C) none H') ∨
  ∃ (M : Mach) (z : Str), r = M.d ∧ M.Ok ∧ TxL k ∧ lotD M.y k = true ∧ t = .str z ∧ withinD M.y 40 t = true ∧ z.length ≤ 40 ∧ 8 < z.length ∧ ∀ H' m, Ex H H' → H' m = none → E (.ref CM) (some m) (upd H' m (.xd [("most", .int 8)])))
theorem sc_origin : FnScope ["reader", "kinds", "text", "counts"] ["reader", "kinds", "text"] (defScope sOrigin) := ⟨rfl, rfl, rfl, by decide +kernel, rfl, by decide +kernel, by decide +kernel⟩
theorem x_origin (D : Df K mg "origin" sOrigin) (C1 : Klx P w K mg base 4 "check_reader" ["reader"] (spXReader K CR)) (C2 : Klx P w K mg base 5 "check_kinds" ["letters", "kinds"] (spXKinds K CK)) (C3 : Klx P w K mg base 3 "check_text" ["letters", "text"] (spXText K CT)) (C4 : Klx P w K mg base 3 "check_led" ["texts"] (spXLed K CM)) :
    Klx P w K mg base 9 "origin" ["reader", "kinds", "text"] (spXOrigin K CR CK CT CM) := by
  refine klx_of (k := 8) D sc_origin (fun vs H Q E ⟨r, k, t, h, _⟩ => dpAll_len h) (fun _ _ _ _ _ _ us hl => match us, hl with | [_, _, _], _ => rfl) fun f cdv A outer s H vs Q E hr h => ?_
  obtain ⟨r, k, t, hd, h⟩ := h
  obtain ⟨v, v2, v3, rfl, h0, h1, h2⟩ := dp3 hd
  obtain ⟨f1, fd1, F1, m1, k1, b1⟩ := C1
  obtain ⟨f2, fd2, F2, m2, k2, b2⟩ := C2
  obtain ⟨f3, fd3, F3, m3, k3, b3⟩ := C3
  obtain ⟨f4, fd4, F4, m4, k4, b4⟩ := C4
  refine ⟨_, pss_cons (ps_expr (pe_call F1 (hr.mono (by decide)) (by rfl) m1 k1 b1 .nil (passes_call (takes_of rfl rfl rfl rfl) fun _ _ _ _ h => h) (pa_cons (pv 0) pa_nil)))
    (pss_cons (ps_expr (pe_call F2 (hr.mono (by decide)) (by rfl) m2 k2 b2 .nil (passes_call (takes_of rfl rfl rfl rfl) fun _ _ _ _ h => h) (pa_cons (pe_ix (r := rIxT K) ix_tup (pv 0) pe_int (fun _ _ => rfl)) (pa_cons (pv 1) pa_nil))))
    (pss_cons (ps_expr (pe_call F3 (hr.mono (by decide)) (by rfl) m3 k3 b3 .nil (passes_call (takes_of rfl rfl rfl rfl) fun _ _ _ _ h => h) (pa_cons (pe_ix (r := rIxT K) ix_tup (pv 0) pe_int (fun _ _ => rfl)) (pa_cons (pv 2) pa_nil))))
    (pss_cons (ps_expr (pe_call F4 (hr.mono (by decide)) (by rfl) m4 k4 b4 .nil (passes_call (takes_of rfl rfl rfl rfl) fun _ _ _ _ h => h) (pa_cons (pe_tup (pa_cons (pv 2) pa_nil)) pa_nil))) pss_no))), ?_⟩
  have o : TxR r ∧ (readerD r = false → ∀ H', Ex H H' → E (.ref CR) none H') ∧ (readerD r = true → ∃ M : Mach, r = M.d ∧ TxL k ∧ (lotD M.y k = false → ∀ H', Ex H H' → E (.ref CK) none H') ∧ (lotD M.y k = true → Tx t ∧ (withinD M.y 40 t = false → ∀ H', Ex H H' → E (.ref CT) none H') ∧ (withinD M.y 40 t = true → ∃ z, t = .str z ∧ z.length ≤ 40 ∧ 8 < z.length ∧ ∀ H' m, Ex H H' → H' m = none → E (.ref CM) (some m) (upd H' m (.xd [("most", .int 8)]))))) := by
    rcases h with ⟨C, ⟨rfl, tx, no⟩ | ⟨M, rfl, ok, hh⟩, q⟩ | ⟨M, z, rfl, ok, tk, lk, rfl, wt, zl, z8, q⟩
    · exact ⟨tx, (fun _ => q), fun yes => by rw [no] at yes; cases yes⟩
    · have rok := reader_ok ok
      refine ⟨tx_reader M ok, (fun no => by rw [rok] at no; cases no), fun _ => ⟨M, rfl, ?_⟩⟩
      rcases hh with ⟨rfl, tk, no⟩ | ⟨rfl, tk, yes, tt, no⟩
      · exact ⟨tk, (fun _ => q), fun y => by rw [no] at y; cases y⟩
      · exact ⟨tk, (fun n => by rw [yes] at n; cases n), fun _ => ⟨tt, (fun _ => q), fun y => by rw [no] at y; cases y⟩⟩
    · have rok := reader_ok ok
      exact ⟨tx_reader M ok, (fun no => by rw [rok] at no; cases no), fun _ => ⟨M, rfl, tk, (fun n => by rw [lk] at n; cases n), fun _ => ⟨(fun x e => by cases e; omega), (fun n => by rw [wt] at n; cases n), fun _ => ⟨z, rfl, zl, z8, q⟩⟩⟩⟩
  obtain ⟨o1, o2, o3⟩ := o
  refine ⟨v, rfl, [r], .cons h0 .nil, ⟨r, rfl, o1⟩, fun ok H1 e1 => ?_, fun no H1 e1 => o2 no H1 e1⟩
  obtain ⟨M, rfl, p1, p2, p3⟩ := o3 ok
  have ix : ∀ (G : Hp), Ex H G → EvD K (tOp (rIxT K) (tVar 0) (tC (.int 0))) (start ["reader", "kinds", "text", "counts"] [v, v2, v3]) G (.str M.y) := fun G e => d_ixT (d_var (i := 0) ⟨v, rfl, dp_ex e h0⟩) (d_int (i := 0)) rfl
  refine ix H1 e1 H1 (Ex.refl _) _ fun u G1 g1 hu => ?_
  have eg1 := e1.trans g1
  refine ⟨v2, rfl, [.str M.y, k], .cons hu (.cons (dp_ex eg1 h1) .nil), ⟨M.y, k, rfl, p1⟩, fun ok2 H2 e2 => ?_, fun no H2 e2 => p2 no H2 (eg1.trans e2)⟩
  obtain ⟨r1, r2, r3⟩ := p3 ok2
  refine ix H2 (eg1.trans e2) H2 (Ex.refl _) _ fun u2 G2 g2 hu2 => ?_
  have eg2 := (eg1.trans e2).trans g2
  refine ⟨v3, rfl, [.str M.y, t], .cons hu2 (.cons (dp_ex eg2 h2) .nil), ⟨M.y, t, rfl, r1⟩, fun ok3 H3 e3 => ?_, fun no H3 e3 => r2 no H3 (eg2.trans e3)⟩
  obtain ⟨z, rfl, zl, z8, q⟩ := r3 ok3
  have eg3 := eg2.trans e3
  refine ⟨v3, rfl, Evl.sz_of (by show 1 ≤ 100000; decide), fun p np => ?_⟩
  have ep := Ex.new (o := .tup [v3]) np
  refine ⟨[z], .cons (.tup (Evl.st_of upd_same) (.cons (dp_ex (eg3.trans ep) h2) .nil)) .nil, by show 1 ≤ 10; decide, fun t ht => by rw [List.mem_singleton.mp ht]; omega, fun _ H4 m e4 nm => q H4 m ((eg3.trans ep).trans e4) nm, fun hle => ?_⟩
  have := hle z (List.mem_singleton.mpr rfl)
  omega
end
end K14

set_option maxHeartbeats 4000000
set_option autoImplicit false
/-! try with several clauses, with and without a name. -/
namespace AsTry
open PySem PySem.Spec PyProof.Rows L2
/-- the ends of a suite whose name, slot i, goes behind it -/
def goneE (i : Nat) (D : Ends) : Ends := { nx := fun σ H => D.nx (σ.set i none) H, rt := D.rt, bk := fun σ H => D.bk (σ.set i none) H, ct := fun σ H => D.ct (σ.set i none) H }
abbrev Sui := Addr → Value → Option Addr → TS
/-- one clause: its class, its suite's reading -/
inductive Hd (X : Cx) : ExceptHandler → Value × Sui → Prop
  | plain {x : Str} {c : Value} {ts : Sui} {b : Stmt} {bs : List Stmt} {p1 p2 : Pos} (nm : Names X x c)
      (su : ∀ (a : Addr) (oe : Obj) (cls : Value) (d : Option Addr) (pn : List (Addr × Obj)), Zc cls d oe → (∃ vs, oe.data = .fields vs) → PSs (X.suite a ((a, oe) :: pn)) (b :: bs) (ts a cls d)) : Hd X (.ExceptHandler (some (.Name x p1)) none (b :: bs) p2) (c, ts)
  | named {x n : Str} {i : Nat} {c : Value} {ts : Sui} {b : Stmt} {bs : List Stmt} {p1 p2 : Pos} (nm : Names X x c) (nd : X.N.Nodup) (at_ : X.N[i]? = some n) (lo : X.env.kindOf n = some .local)
      (su : ∀ (a : Addr) (oe : Obj) (cls : Value) (d : Option Addr) (pn : List (Addr × Obj)), Zc cls d oe → (∃ vs, oe.data = .fields vs) → PSs (X.suite a ((a, oe) :: pn)) (b :: bs) (ts a cls d)) :
      Hd X (.ExceptHandler (some (.Name x p1)) (some n) (b :: bs) p2) (c, fun a cls d D σ H => (σ.set i (some (.ref a)))[i]? = some (some (.ref a)) → ts a cls d (goneE i D) (σ.set i (some (.ref a))) H)
inductive Hds (X : Cx) : List ExceptHandler → List (Value × Sui) → Prop
  | nil : Hds X [] []
  | cons {h : ExceptHandler} {q : Value × Sui} {hs : List ExceptHandler} {l : List (Value × Sui)} (a : Hd X h q) (r : Hds X hs l) : Hds X (h :: hs) (q :: l)
section
variable {X : Cx} {pins : List (Addr × Obj)} {σ σ1 : L2.St} {H H1 : Hp} {s s1 sI : Shared} {D : Ends} {B : Heap} {a : Addr} {cls : Value} {d : Option Addr} {Wout : WX}
/-- a suite's end, told of the context of the try -/
theorem end_plain {oe : Obj} {fl : Flow} {pn : List (Addr × Obj)} (ok : X.Ok) (h : SP (X.suite a ((a, oe) :: (X.pn ++ pins))) [] D fl s1) : SP X pins D fl s1 := by
  cases fl with
  | ret u =>
    obtain ⟨v, τ, G, S, rv, q⟩ := h
    exact ⟨v, τ, G, S.unsuite ok, rv, q⟩
  | next =>
    obtain ⟨τ, G, S, q⟩ := h
    exact ⟨τ, G, S.unsuite ok, q⟩
  | brk =>
    obtain ⟨τ, G, S, q⟩ := h
    exact ⟨τ, G, S.unsuite ok, q⟩
  | cont =>
    obtain ⟨τ, G, S, q⟩ := h
    exact ⟨τ, G, S.unsuite ok, q⟩
/-- .. with the clause's name taken away -/
theorem end_named {oe : Obj} {fl : Flow} {n : Str} {i : Nat} {p2 : Pos} {E : Value → Shared → Prop} {A : Around} (ok : X.Ok) (nd : X.N.Nodup) (at_ : X.N[i]? = some n) (lo : X.env.kindOf n = some .local)
    (h : SP (X.suite a ((a, oe) :: (X.pn ++ pins))) [] (goneE i D) fl s1) : wpAny (model X.prog X.w) A (do bindName X.env n .none; unbindBehindTheSuite X.env n p2) (fun _ s2 => SP X pins D fl s2) E s1 := by
  cases fl with
  | ret u =>
    obtain ⟨v, τ, G, S, rv, q⟩ := h
    exact gone_ok (S.unsuite ok) nd at_ lo fun s2 J => ⟨v, τ.set i none, G, J, rv, q⟩
  | next =>
    obtain ⟨τ, G, S, q⟩ := h
    exact gone_ok (S.unsuite ok) nd at_ lo fun s2 J => ⟨τ.set i none, G, J, q⟩
  | brk =>
    obtain ⟨τ, G, S, q⟩ := h
    exact gone_ok (S.unsuite ok) nd at_ lo fun s2 J => ⟨τ.set i none, G, J, q⟩
  | cont =>
    obtain ⟨τ, G, S, q⟩ := h
    exact gone_ok (S.unsuite ok) nd at_ lo fun s2 J => ⟨τ.set i none, G, J, q⟩
/-- an exception that has come down to the try at h3, and the clauses that are left -/
theorem clauses {h3 : Heap} (hs : X.stack = X.env :: X.outer) (hf : X.env.frame = some X.env.locals) (tk : Takes X Wout) (J : Inv X pins σ H sI) (nb : ∀ b o, sI.heap.get? b = some o → b ∉ frs X.stack → B.get? b = some o) (up : sI.heap.UpToSlots h3)
    (fl3 : HandSPX.FlyingZ B (X.env :: X.outer) a (Zc cls d) h3) (na : H a = none) (os : s.os = sI.os) (ag : AllBare s.gens) : ∀ {hds : List ExceptHandler} {l : List (Value × Sui)}, Hds X hds l → wMany X.K Wout D l cls d σ H →
    wpAny (model X.prog X.w) X.A (handleBy (.ref a) X.env hds) (SP X pins D) X.xe { s with heap := h3 } := by
  have ok := J.ok
  have fresh : ∀ {h : Heap}, HandSPX.FlyingZ B (X.env :: X.outer) a (Zc cls d) h → a ≠ X.env.locals ∧ a ∉ X.fs := fun {h} fz => by
    obtain ⟨o, vs, e, _, dd⟩ := fz.there
    have no : a ∉ frs (X.env :: X.outer) := fun hm => by
      obtain ⟨_, o', e', nf⟩ := fz.2.2.1.mem hm
      cases e.symm.trans e'
      exact nf _ dd
    refine ⟨fun z => no (List.mem_filterMap.mpr ⟨X.env, List.mem_cons_self, by rw [hf, z]⟩), fun hm => ?_⟩
    obtain ⟨e', he', z⟩ := List.mem_filterMap.mp hm
    exact no (List.mem_filterMap.mpr ⟨e', List.mem_cons_of_mem _ he', z⟩)
  have land : ∀ {h : Heap}, HandSPX.FlyingZ B (X.env :: X.outer) a (Zc cls d) h → sI.heap.UpToSlots h → ∃ oe, Zc cls d oe ∧ (∃ vs, oe.data = .fields vs) ∧ h.get? a = some oe ∧ Inv (X.suite a ((a, oe) :: (X.pn ++ pins))) [] σ H { s with heap := h } := fun {h} fz u => by
    obtain ⟨o, vs, e, z, dd⟩ := fz.there
    exact ⟨o, z, ⟨vs, dd⟩, e, (Inv.landed (s' := { s with heap := h }) J nb fz.1 u os ag).suite e dd na (fresh fz).1 (fresh fz).2⟩
  intro hds l hk
  induction hk with
  | nil =>
    intro w
    obtain ⟨_, _, _, oe, vs, T, oT, ts', he, hz, hd, h1, _⟩ := id fl3
    refine wpAny_handleBy_nil ?_
    unfold PySem.passOn
    refine wpAny_bind (wpAny_field he hd h1 ?_)
    rw [if_neg (show ¬ ((Value.ref T == Value.none) = true) from by simp)]
    have out : wpAny (model X.prog X.w) X.A (setFlight (.ref a) X.env.frame) (fun _ s4 => wpAny (model X.prog X.w) X.A (throw (.ref a) : Sem Flow) (SP X pins D) X.xe s4) X.xe { s with heap := h3 } := by
      rw [hf]
      exact HandSPX.setFlight_upZ fl3 fun h4 x4 u4 => wpAny_throw (tk _ _ ⟨a, B, sI, pins, σ, H, cls, d, rfl, J, nb, up.trans u4, .inr (.inr (by rw [hs]; exact x4)), na, os, ag, w⟩)
    first | exact wpAny_bind (wpAny_pure (wpAny_bind out)) | exact wpAny_bind out
  | @cons hh q hs2 l2 ha hr ih =>
    intro w
    obtain ⟨c, ts⟩ := q
    obtain ⟨yes, e1, w1, w2⟩ := w
    obtain ⟨oe3, z3, f3, he3, S3⟩ := land fl3 up
    have LT : PySem.W.Looks (model X.prog X.w) h3 (typeOf (.ref a)) cls := fun A Q E s k q => wpAny_typeOf_ref (k _ _ he3) (by rw [z3.1]; exact q)
    have LM := PySem.W.exm_one (M := model X.prog X.w) S3.kIn LT e1
    have test : ∀ {x : Str} {np : Pos} {Q : Value → Shared → Prop} {E : Value → Shared → Prop}, Names X x c → Q c { s with heap := h3 } → wpAny (model X.prog X.w) (X.A.mark (some (.ref a))) (eval (.Name x np) X.env) Q E { s with heap := h3 } := fun {x np Q E} nm q => by
      obtain ⟨g, db, m | ⟨m, v, nn⟩⟩ := nm
      · exact ld_glob (X := X.suite a ((a, oe3) :: (X.pn ++ pins))) S3 g m q db
      · exact ld_blt (X := X.suite a ((a, oe3) :: (X.pn ++ pins))) S3 g m v q nn db
    cases ha with
    | plain nm su =>
      refine wpAny_handleBy_cons (codeAny_handlers_test ?_) (by intro z; cases z)
      refine test nm (LM.here ?_)
      cases yes with
      | false => exact ih (w2 rfl)
      | true =>
        refine codeAny_handlers_suite (HandSPX.lands_againZ fl3 fun h4 fl4 u4 => ?_)
        obtain ⟨oe4, z4, f4, he4, S4⟩ := land fl4 (up.trans u4)
        exact wpAny_mono ((su a oe4 cls d (X.pn ++ pins) z4 f4).run [] _ _ H _ S4 (w1 rfl a na)) (fun fl s6 q => end_plain (pn := []) ok q) fun _ _ z => z.elim
    | named nm nd at_ lo su =>
      refine wpAny_handleBy_cons (codeAny_handlers_test ?_) (by intro z; cases z)
      refine test nm (LM.here ?_)
      cases yes with
      | false => exact ih (w2 rfl)
      | true =>
        refine codeAny_handlers_suite_as (HandSPX.lands_againZ fl3 fun h4 fl4 u4 => ?_)
        obtain ⟨oe4, z4, f4, he4, S4⟩ := land fl4 (up.trans u4)
        refine store_ok (X := X.suite a ((a, oe4) :: (X.pn ++ pins))) (v := .ref a) S4 nd at_ (.inl lo) rfl (fun s5 S5 => ?_) (.inr lo)
        exact wpAny_mono ((su a oe4 cls d (X.pn ++ pins) z4 f4).run [] s5 _ H _ S5 (w1 rfl a na (by rw [List.getElem?_set_self (by rw [J.len]; exact (List.getElem?_eq_some_iff.mp at_).1)]))) (fun fl s6 q => end_named ok nd at_ lo q) fun _ _ z => z.elim
end
section
variable {X : Cx} {body : List Stmt} {h0 : ExceptHandler} {hds : List ExceptHandler} {l : List (Value × Sui)} {pos : Pos} {tb : WX → TS} {Wout : WX}
/-- try: body / except A: .. / except B as e: .. -/
theorem ps_tryMix (hs : X.stack = X.env :: X.outer) (hf : X.env.frame = some X.env.locals) (tk : Takes X Wout)
    (hb : ∀ (W : WX) (pn : List (Addr × Obj)) (xe : Value → Shared → Prop), Takes (X.tr pn xe) W → PassesOwn (model X.prog X.w) X.A X.env xe → PSs (X.tr pn xe) body (tb W)) (hh : Hds X (h0 :: hds) l) :
    PS X (.Try body (h0 :: hds) [] [] pos) (fun D σ H => tb (wMany X.K Wout D l) D σ H) := by
  refine ⟨fun pins s σ H D I h => wpAny_Try_except ?_⟩
  have ok := I.ok
  have fr : X.A.frames = some (X.env :: X.outer) := ok.frames.trans (by rw [hs])
  have run := (hb (wMany X.K Wout D l) (X.pn ++ pins) (fun e s1 => wpAny (model X.prog X.w) X.A (noteFrame e X.env) (fun _ s2 => wpAny (model X.prog X.w) X.A (setFlight e none)
    (fun _ s3 => wpAny (model X.prog X.w) X.A (handleBy e X.env (h0 :: hds)) (SP X pins D) X.xe s3) X.xe s2) X.xe s1) (fun u s' x => ?_) PassesOwn.looking).run [] s σ H D (I.toTry _) h
  · refine wpAny_mono run (fun fl s1 q => ?_) fun _ _ z => z
    cases fl with
    | next =>
      obtain ⟨τ, G, J, q⟩ := q
      exact wpAny_execs_nil ⟨τ, G, J.ofTry ok, q⟩
    | ret u =>
      obtain ⟨v, τ, G, J, rv, q⟩ := q
      exact ⟨v, τ, G, J.ofTry ok, rv, q⟩
    | brk =>
      obtain ⟨τ, G, J, q⟩ := q
      exact ⟨τ, G, J.ofTry ok, q⟩
    | cont =>
      obtain ⟨τ, G, J, q⟩ := q
      exact ⟨τ, G, J.ofTry ok, q⟩
  · obtain ⟨a, B, sI, pins', τ, G, cls, d, rfl, J', nb, up, sky, na, os, ag, w⟩ := x
    have J : Inv X pins τ G sI := J'.ofTry ok
    have sky' : Sky B (X.env :: X.outer) a (Zc cls d) X.env.locals s'.heap := by
      rw [← hs]
      exact sky
    exact Sky.land Zc.steady fr hf sky' fun h3 fl3 up3 => clauses hs hf tk J nb (up.trans up3) fl3 na os ag hh w
end
/-- isinstance(e, T), e the caught exception of the class at C, with a dict or without, T a built-in class above C -/
def rIsV (T : String) (a : Addr) : List V → Hp → VK → Prop := fun xs H Q => xs = [.ref a, .ty T] ∧ Q (.bl true) H
section
open PySem.W
theorem says_true {K : Frag} {a : Addr} {t : Value} {T : String} {S : Heap → Prop} (ty : ∀ (M : Model) (h : Heap), S h → Looks M h (typeOf (.ref a)) t) (e : kitCls K t (.type T) = some true) (ne : (t == .type T) = false) : Answers (fun s => K.In s.heap ∧ S s.heap) (.ref a) (.type T) true := by
  intro dep tk prog w A R s ⟨⟨X, p⟩, hq⟩
  obtain ⟨hp, g, dr, tt, os⟩ := s
  obtain ⟨y1, y2, y3⟩ := kit_cls (M := model prog w) X e
  have L := ty (model prog w) hp p
  unfold Builtin.«isinstance.nested»
  refine wpAny_bind (L.at ?_)
  rw [if_neg (by rw [ne]; exact Bool.false_ne_true)]
  refine wpAny_bind (y1.at ?_)
  rw [if_pos (by decide)]
  k_delta "plainIsInstance"
  refine wpAny_bind (wpAny_bind (y2.at ?_))
  simp only [Bool.not_true, Bool.false_eq_true, if_false]
  refine wpAny_bind ((L.andThen y3 : Looks (model prog w) hp (isInstance (.ref a) (.type T)) true).at ?_)
  first | exact wpAny_pure (wpAny_pure (hq tt)) | (simp only [if_true]; first | exact wpAny_pure (wpAny_pure (hq tt)) | exact wpAny_pure (hq tt) | exact wpAny_bind (wpAny_pure (wpAny_pure (hq tt))))
end
theorem call_isV {X : Cx} {a C : Addr} {oe : Obj} {d : Option Addr} {T : String} {pn : List (Addr × Obj)} (e : PySem.W.kitCls X.K (.ref C) (.type T) = some true) (hz : Zc (.ref C) d oe) : CallR (X.suite a ((a, oe) :: pn)) (.builtin "isinstance") (rIsV T a) := by
  intro pins s σ H xs us Q I r h
  obtain ⟨rfl, q⟩ := h
  cases r with
  | cons rx rr =>
    cases rr with
    | cons rt rr =>
      cases rr
      cases rx
      cases rt
      have at_ := (I.pin (a, oe) (List.mem_append.mpr (.inl List.mem_cons_self))).1
      refine PySem.call_isinstance (S := fun _ R s => (X.K.In s.heap ∧ s.heap.get? a = some oe) ∧ ∀ tk, R (.ok (.ret (.bool true))) { s with toks := tk })
        (fun prog w A R s hs => PySem.isinstance_outer (says_true (S := fun h => h.get? a = some oe) (fun M h p A Q E s k q => wpAny_typeOf_ref (k _ _ p) (by rw [hz.1]; exact q)) e (by rfl) 0 _ prog w A R s hs) (fun z => nomatch z)) ⟨⟨I.kIn, at_⟩, fun tk => ⟨.bl true, H, I.kept (t' := tk) fun _ _ z => z, rfl, q⟩⟩
end AsTry

set_option maxHeartbeats 4000000
set_option autoImplicit false
/-! [y for y in xs if c] that keeps none: the test may lean on what the def's own state was ahead of the block. -/
namespace AsLcC
open PySem PySem.Spec PyProof.Rows L2 LamX NdefX AsAct
/-- R: the test's reading at the def's slots, of an item; G: what is to hold behind it -/
abbrev RdN := L2.St → Hp → V → (Hp → Prop) → Prop
/-- W D n: n items are behind, D is the new list, empty -/
def tNone (K : PySem.W.Frag) (i : Nat) (R : RdN) : TE := fun σ H Q => ∃ (a : Addr) (xs : List V) (W : Addr → Nat → Hp → Prop), σ[i]? = some (some (.ref a)) ∧ SqL K H a xs ∧ (∀ D, H D = none → W D 0 (upd H D (.lst []))) ∧ (∀ D n G, W D n G → SqL K G a xs) ∧
  (∀ D n x G, xs[n]? = some x → W D n G → R σ G x (W D (n + 1))) ∧ ∀ D G, W D xs.length G → Q (.ref D) G
section
variable {X : Cx} {c : Expr} {R : RdN} {scope : Scope} {y : Str} {j : Nat}
/-- what the test promises in the block, the def's state ahead of the block being told -/
def TestN (X : Cx) (c : Expr) (scope : Scope) (j : Nat) (R : RdN) : Prop := ∀ (pins : List (Addr × Obj)) (s : Shared) (σ : L2.St) (H : Hp), Inv X pins σ H s → ∀ (C : Addr) (cl : List (Str × Addr)) (fp : List Addr), (∀ b ∈ fp, FpOk X pins H b ∧ b < s.heap.objs.size) →
  ∀ (pn2 : List (Addr × Obj)) (s2 : Shared) (σ2 : L2.St) (H2 : Hp) (G : Hp → Prop) (x : V), Inv (X.blk s H scope (compEnvC scope cl C X.env) fp) pn2 σ2 H2 s2 → σ2[j]? = some (some x) → R σ H2 x G →
    wpAny (model X.prog X.w) X.A (isTrue c (compEnvC scope cl C X.env) (eval c (compEnvC scope cl C X.env))) (fun b s3 => b = false ∧ ∃ H3, Inv (X.blk s H scope (compEnvC scope cl C X.env) fp) pn2 σ2 H3 s3 ∧ G H3) (fun _ _ => False) s2
/-- back from the block -/
theorem back {pins : List (Addr × Obj)} {σ σ2 : L2.St} {H H2 : Hp} {s s2 : Shared} {ce : Env} {fp : List Addr} (I : Inv X pins σ H s) (f : ∀ b ∈ fp, FpOk X pins H b ∧ b < s.heap.objs.size) (J : Inv (X.blk s H scope ce fp) [] σ2 H2 s2) : Inv X pins σ H2 s2 := by
  refine I.call' (ch := fp) J.os J.base J.hok J.bare fun b hb => ?_
  obtain ⟨⟨_, f2, f3, f4, f5, f6⟩, _⟩ := f b hb
  exact ⟨f4, f2, f5, f6⟩
theorem pe_lcN {i : Nat} {z : Str} {p1 p2 p3 pos : Pos} (hc : X.calm = true) (hN : X.N.Nodup) (hi : X.N[i]? = some z) (hv : Vis X.env.scope z) (ok : BlkOk X.N X.env.scope scope [(y, j)]) (hg : ∀ (s : Shared) (H : Hp) (C : Addr) (cl : List (Str × Addr)) (fp : List Addr), PG (X.blk s H scope (compEnvC scope cl C X.env) fp) (.Name y p2) (gName j)) (ht : TestN X c scope j R)
    (hs : ∀ x, foldedSetIterable (.Name z p3) X.env x = pure x := by intro _; rfl) (hd : (z == ("__debug__" : Str)) = false := by decide) (hcd : (z == ("__classdict__" : Str)) = false := by decide) :
    PE X (.ListComp (.Name y p1) [⟨.Name y p2, .Name z p3, [c], 0⟩] scope pos) (tNone X.K i R) := by
  refine ⟨fun pins s σ H Q I ⟨a, xs, W, ha, hq, w0, wk, ws, wE⟩ => ?_⟩
  rw [eval_ListComp]
  have cellsOk : ∀ q ∈ scope.names, q.2 = .free → ∃ c, X.env.cells.lookup q.1 = some c := fun q hq e => (ok.free q hq e).elim (fun k => I.ok.has _ (.inl k)) fun k => I.ok.has _ (.inr k)
  have iter := (pi_list (tg := .Name y p2) (pe_var (X := X) (pos := p3) hi hv hd hcd)).run pins s σ H (fun J G => J = Itl X.K a ∧ G = H) I ⟨_, ha, a, rfl, ⟨xs, hq⟩, rfl, rfl⟩
  refine wpAny_comprehension_free rfl hs (closure_ok cellsOk) ok.kind (fun q hq e => (ok.uniq q hq).trans (congrArg some e)) (thn iter fun _ _ h1 => thn h1 fun _ s1 h2 => ?_)
  obtain ⟨it, fp, tn, J, H1, rfl, I1, T, t1, f1, rfl, rfl⟩ := h2
  refine wpAny_newObj_type (newEnv_comp ?_) (Nat.zero_le _)
  obtain ⟨D, eD⟩ : ∃ D, D = s1.heap.objs.size := ⟨_, rfl⟩
  have fresh : H1 D = none := I1.hok.fresh (by rw [eD]; exact Nat.le_refl _)
  obtain ⟨lo, elo⟩ : ∃ lo : Obj, lo = { cls := .type "list", data := .seq ([] : List Value).toArray } := ⟨_, rfl⟩
  obtain ⟨s2, e2⟩ : ∃ s2 : Shared, s2 = { s1 with heap := s1.heap.push lo } := ⟨_, rfl⟩
  have up2 : ∀ b o, s1.heap.get? b = some o → s2.heap.get? b = some o := fun b o q => by rw [e2]; exact Heap.get?_push_of_some _ q
  have at2 : s2.heap.get? D = some lo := by
    rw [e2, eD]
    exact Heap.get?_push_size _ (by rw [elo]; rfl)
  have I2 : Inv X pins σ (upd H1 D (.lst [])) s2 := by
    rw [e2]
    refine I1.laid (t' := s1.toks) (fun b o q => Heap.get?_push_of_some _ q) (by rw [eD]; exact Nat.le_refl _) ⟨Nat.zero_le _, [], 0, .nil, ?_⟩
    rw [e2] at at2
    rw [elo] at at2 ⊢
    exact at2
  have f2 : ∀ b ∈ fp, FpOk X pins (upd H1 D (.lst [])) b ∧ b < s2.heap.objs.size := fun b hb => by
    obtain ⟨o, q, _⟩ := T.obj _ _ t1 b hb
    have lt := Heap.lt_size q
    have nD : b ≠ D := fun z => by rw [z, eD] at lt; exact Nat.lt_irrefl _ lt
    exact ⟨⟨(upd_ne nD).trans (f1 b hb).1, (f1 b hb).2⟩, Heap.lt_size (up2 b o q)⟩
  obtain ⟨ce, ece⟩ : ∃ ce, ce = compEnvC scope (cellsFrom (s2.heap.objs.size + 1) scope.names (cloFrom X.env.cells scope.names [])) s2.heap.objs.size X.env := ⟨_, rfl⟩
  have locE : ce.locals = s2.heap.objs.size := by rw [ece]; rfl
  obtain ⟨s3, e3⟩ : ∃ s3 : Shared, s3 = { s2 with heap := pushCells (s2.heap.push { cls := .type "dict", data := .dict #[] }) scope.names } := ⟨_, rfl⟩
  have up3 : ∀ b o, s2.heap.get? b = some o → s3.heap.get? b = some o := fun b o q => by rw [e3]; exact pushCells_keeps _ _ _ _ (Heap.get?_push_of_some _ q)
  have I3 : Inv (X.blk s2 (upd H1 D (.lst [])) scope ce fp) [] (wipe σ [j]) (upd H1 D (.lst [])) s3 := by
    rw [ece, e3]
    exact block_start I2 ok hN f2
  have t3 : tn 0 s3.heap := T.keep _ _ _ t1 fun b _ o q => up3 b o (up2 b o q)
  have test := ht pins s2 σ (upd H1 D (.lst [])) I2 s2.heap.objs.size (cellsFrom (s2.heap.objs.size + 1) scope.names (cloFrom X.env.cells scope.names [])) fp f2
  have target := hg s2 (upd H1 D (.lst [])) s2.heap.objs.size (cellsFrom (s2.heap.objs.size + 1) scope.names (cloFrom X.env.cells scope.names [])) fp
  rw [← ece] at test target
  have nfp0 : ∀ b ∈ fp, upd H1 D (.lst []) b = none := fun b hb => (f2 b hb).1.1
  have W0 := w0 D fresh
  have here : ∀ {τ : L2.St} {G : Hp} {t : Shared}, Inv (X.blk s2 (upd H1 D (.lst [])) scope ce fp) [] τ G t → (∀ b ∈ fp, G b = none) → ∀ b ∈ fp, FpOk (X.blk s2 (upd H1 D (.lst [])) scope ce fp) [] G b := fun {τ G t} K n b hb =>
    ⟨n b hb, (K.ok.exf b hb).1, K.ok.exfs b hb, .inl hb, fun q c e => (K.ok.exf b hb).2 q c e, fun p hp => absurd (show p ∈ ([] : List (Addr × Obj)) ++ [] from hp) (by simp)⟩
  have post : ∀ {τ : L2.St} {G : Hp} {t : Shared}, Inv (X.blk s2 (upd H1 D (.lst [])) scope ce fp) [] τ G t → W D xs.length G → compPost (model X.prog X.w) X.A X.xe none (EP X pins σ Q) (.ref D) s2.heap.objs.size (.ok .next) t := fun {τ G t} K w => by
    obtain ⟨m, hn, _⟩ := K.loc
    have hn : t.heap.Ns ce.locals m := hn
    rw [locE] at hn
    refine ⟨m, hn, fun h' sb => ?_⟩
    have KX := back I2 f2 K
    have nC : G s2.heap.objs.size = none := by
      have z : G ce.locals = none := K.free
      rwa [locE] at z
    obtain ⟨g0, g1, g2, g3, g4, g5⟩ := I2.fpOk (Nat.le_refl _) nC
    exact ⟨.ref D, G, KX.turned (t' := t.toks) (fun b o hb e => (sb.2 b hb).trans e) g0 g1 g3 g4 g5, rfl, wE D G w⟩
  have loop : codeAny (model X.prog X.w) X.A (.compLoop (.ListComp (.Name y p1) [⟨.Name y p2, .Name z p3, [c], 0⟩] scope pos) 0 (.ref it) (.ref D) ce) (compPost (model X.prog X.w) X.A X.xe none (EP X pins σ Q) (.ref D) s2.heap.objs.size) s3 := by
    refine compLoop_any (fun left t => ∃ n G, Inv (X.blk s2 (upd H1 D (.lst [])) scope ce fp) [] (wipe σ [j]) G t ∧ tn n t.heap ∧ (∀ b ∈ fp, G b = none) ∧ W D n G ∧ n + left = xs.length) ?_ xs.length ⟨0, _, I3, t3, nfp0, W0, by omega⟩
    rintro left t4 ⟨n, G, I4, u4, n4, w4, en⟩
    by_cases hlt : n < xs.length
    · have hx : xs[n]? = some xs[n] := List.getElem?_eq_getElem hlt
      refine thnF (T.item (X.blk s2 (upd H1 D (.lst [])) scope ce fp) rfl rfl rfl hc n [] t4 _ G (fun _ _ => False) I4 (here I4 n4) u4 ⟨xs, xs[n], wk D n G w4, hx⟩) fun r t5 ⟨u, er, h5⟩ => ?_
      subst er
      refine thnF h5 fun _ t6 ⟨x, G6, I6, r6, y6, u6, n6⟩ => ?_
      obtain ⟨eG, ex⟩ := y6
      subst eG
      have exn : xs[n] = x := Option.some.inj (hx.symm.trans (ex xs (wk D n G6 w4)))
      have I6p := I6.pinned (here I6 n6) (T.obj _ _ u6)
      have jl : j < (wipe σ [j]).length := by
        rw [wipe_length, I.len]
        exact (List.getElem?_eq_some_iff.mp (ok.ix (y, j) (List.mem_singleton.mpr rfl))).1
      refine thnF (target.run _ t6 _ G6 x u (fun τ K => τ = (wipe σ [j]).set j (some x) ∧ K = G6) I6p r6 ⟨rfl, rfl⟩) fun _ t7 ⟨τ, K, I7, eτ, eK⟩ => ?_
      subst eτ eK
      refine wpAny_tests_one (thnF (test _ t7 _ K (W D (n + 1)) x I7 (List.getElem?_set_self jl) (ws D n x K (by rw [hx, exn]) w4)) fun b t8 ⟨eb, K8, I8, w8⟩ => ?_)
      subst eb
      have stay : ∀ b ∈ fp, ∀ o, t6.heap.get? b = some o → t8.heap.get? b = some o ∧ K8 b = none := fun b hb o e =>
        have q := I8.pin (b, o) (List.mem_append_right _ (List.mem_append_right _ (mem_pinsAt hb e)))
        ⟨q.1, q.2.1⟩
      refine ⟨left - 1, by omega, n + 1, K8, (I8.unpinned (pins := [])).weak (by rw [List.length_set]) (fun k v e => ?_), T.keep _ _ _ u6 fun b hb o e => (stay b hb o e).1, fun b hb => ?_, w8, by omega⟩
      · have z := wipe_some (σ := σ) (vs := [j]) e
        rw [List.getElem?_set_ne (fun q => z.2 (by rw [q]; exact List.mem_singleton.mpr rfl))]
        exact e
      · obtain ⟨o, e, _⟩ := T.obj _ _ u6 b hb
        exact (stay b hb o e).2
    · refine thnF (T.done (X.blk s2 (upd H1 D (.lst [])) scope ce fp) rfl rfl rfl hc n [] t4 _ G (fun _ _ => False) I4 (here I4 n4) u4 ⟨xs, wk D n G w4, by omega⟩) fun r t5 ⟨er, I5⟩ => ?_
      subst er
      have enx : n = xs.length := by omega
      rw [enx] at w4
      exact post I5 w4
  have fin := codeAny_compStart_list loop (T.self X.A 0 _ _ _ t3 loop)
  rw [ece, e3] at fin
  subst e2 elo
  rw [eD] at fin
  exact fin
end
end AsLcC

set_option maxHeartbeats 4000000
set_option autoImplicit false
/-! the test `ask(call) != text` in such a comprehension. -/
namespace AsLcC
open PySem PySem.Spec PyProof.Rows L2 LamX NdefX AsAct
section
variable {X : Cx} {k : Nat} {TT : (XK → Hp → VK → Prop) → Hp → VK → Prop} {x : Str} {st : Stmt} {g : Addr} {cdg : Value} {Ng : List Str} {scope : Scope} {j : Nat}
/-- what is asked of the answer u: it is the text w -/
def AskQ (w : Str) (G : Hp → Prop) : VK := fun u H' => rNe u (.str w) H' fun z H4 => ∃ k, z = .bl k ∧ (k = false ∧ G H4)
theorem askQ_of {w : Str} {G : Hp → Prop} {H : Hp} (h : G H) : AskQ w G (.str w) H := ⟨rfl, false, by simp, rfl, h⟩
/-- the item's lambda, asked, gives the text w -/
def rAsk (X : Cx) (k : Nat) (TT : (XK → Hp → VK → Prop) → Hp → VK → Prop) (w : Str) : RdN := fun σ H v G => ∃ (f : Addr) (L : Lw) (t : XK → TE), v = .ref f ∧ LmAt X f L H ∧ LmP X k L t ∧ TT (fun E H' Q' => t E σ H' Q') H (AskQ w G)
/-- the call in the block; σ: the def's slots ahead of the block -/
theorem pe_askB {pins : List (Addr × Obj)} {s : Shared} {σ : L2.St} {H : Hp} {C : Addr} {cl : List (Str × Addr)} {fp : List Addr} {y : Str} {p p1 pos : Pos} (I : Inv X pins σ H s) (hf : ∀ b ∈ fp, FpOk X pins H b ∧ b < s.heap.objs.size) (D : AskD X.K X.mg x st g cdg) (Sg : FnScope Ng ["call"] (defScope st)) (hNg : Ng[0]? = some ("call" : Str)) (hva : Vis (defScope st) "call")
    (hG : GivesA X Ng x (defScope st) g cdg (defBody st) "call" TT) (hr : Room (k + 2) X.A) (hg : Gl (X.blk s H scope (compEnvC scope cl C X.env) fp) x) (he : PE (X.blk s H scope (compEnvC scope cl C X.env) fp) (.Name y p1) (tVar j)) (hdb : (x == ("__debug__" : Str)) = false) :
    PE (X.blk s H scope (compEnvC scope cl C X.env) fp) (.Call (.Name x p) [.Name y p1] [] pos) (fun τ H2 Q => ∃ (f : Addr) (L : Lw) (t : XK → TE), τ[j]? = some (some (.ref f)) ∧ LmAt X f L H2 ∧ LmP X k L t ∧ TT (fun E H' Q' => t E σ H' Q') H2 Q) := by
  refine ⟨fun pn2 s2 τ H2 Q J ⟨f, L, t, e1, hL, hP, hT⟩ => ?_⟩
  obtain ⟨dV, kV, doc, pm, ct, oc, an, od, osl, lk, hb⟩ := D.lk
  refine wpAny_Call_Name_kw (ld_glob J hg D.m ?_ hdb)
  refine PySem.W.callWith_K (h₀ := X.base) J.ok.mod.kin D.kp (thn ((pa_cons he pa_nil).run pos pn2 s2 τ H2 (fun vs G => vs = [.ref f] ∧ G = H2) J ⟨_, e1, rfl, rfl⟩) fun us s3 ⟨vs, H3, J3, r, ev, eG⟩ => ⟨J3.kIn, ?_⟩)
  subst ev
  rw [eG] at J3
  obtain rfl := Vals.ref1 r
  have ck : CellsKept X s s3 H2 := (CellsKept.self I).un (fun y c e => I.cell y c e) J3.base fun y c e z => (hf c z).1.2.2.2.2.1 y c e rfl
  refine wpAny_call (codeAny_mono (ask_code (X := X) hNg hva hG hr I ck J3.env0 lk hb D.cd Sg hL hP hT) fun r s4 hq => ?_)
  cases r with
  | error e => exact (show False from hq).elim
  | ok fl =>
    cases fl with
    | ret u => exact J3.after hq
    | next => exact False.elim hq
    | brk => exact False.elim hq
    | cont => exact False.elim hq
theorem test_ask {w y : Str} {n : Nat} {p p1 p2 pos pos2 : Pos} (D : AskD X.K X.mg x st g cdg) (Sg : FnScope Ng ["call"] (defScope st)) (hNg : Ng[0]? = some ("call" : Str)) (hva : Vis (defScope st) "call")
    (hG : GivesA X Ng x (defScope st) g cdg (defBody st) "call" TT) (hr : Room (k + 2) X.A) (hgl : ∀ (s : Shared) (H : Hp) (C : Addr) (cl : List (Str × Addr)) (fp : List Addr), Gl (X.blk s H scope (compEnvC scope cl C X.env) fp) x)
    (he : ∀ (s : Shared) (H : Hp) (C : Addr) (cl : List (Str × Addr)) (fp : List Addr), PE (X.blk s H scope (compEnvC scope cl C X.env) fp) (.Name y p1) (tVar j)) (hdb : (x == ("__debug__" : Str)) = false := by decide) :
    TestN X (.Compare (.Call (.Name x p) [.Name y p1] [] pos) [.NotEq] [.Constant (.str w) n p2] pos2) scope j (rAsk X k TT w) := by
  intro pins s σ H I C cl fp hf pn2 s2 σ2 H2 G v J hj ⟨f, L, t, ev, hL, hP, hT⟩
  subst ev
  have pt := pt_cmpR (X := X.blk s H scope (compEnvC scope cl C X.env) fp) (pos := pos2) op_ne (pe_askB (pos := pos) (p := p) I hf D Sg hNg hva hG hr (hgl s H C cl fp) (he s H C cl fp) hdb) (pe_str (x := w) (j := n) (pos := p2)) (nomark _)
  refine wpAny_mono (pt.run pn2 s2 σ2 H2 (fun b K => b = false ∧ G K) J ⟨f, L, t, hj, hL, hP, hT⟩) (fun b s3 ⟨K, JK, eb, q⟩ => ⟨eb, K, JK, q⟩) fun _ _ z => z
end
end AsLcC

set_option maxHeartbeats 4000000
set_option autoImplicit false
/-! [y for y in e if c] that keeps none, e any expression. -/
namespace AsLcC
open PySem PySem.Spec PyProof.Rows L2 LamX NdefX AsAct
def tNoneE (K : PySem.W.Frag) (te : TE) (R : RdN) : TE := fun σ H Q => iList K te σ H fun J H1 => ∃ (a : Addr) (xs : List V) (W : Addr → Nat → Hp → Prop), J = Itl K a ∧ SqL K H1 a xs ∧ (∀ D, H1 D = none → W D 0 (upd H1 D (.lst []))) ∧ (∀ D n G, W D n G → SqL K G a xs) ∧
  (∀ D n x G, xs[n]? = some x → W D n G → R σ G x (W D (n + 1))) ∧ ∀ D G, W D xs.length G → Q (.ref D) G
section
variable {X : Cx} {c : Expr} {R : RdN} {scope : Scope} {y : Str} {j : Nat}
theorem pe_lcE {ie : Expr} {te : TE} {p1 p2 pos : Pos} (hc : X.calm = true) (hN : X.N.Nodup) (hie : PE X ie te) (ok : BlkOk X.N X.env.scope scope [(y, j)]) (hg : ∀ (s : Shared) (H : Hp) (C : Addr) (cl : List (Str × Addr)) (fp : List Addr), PG (X.blk s H scope (compEnvC scope cl C X.env) fp) (.Name y p2) (gName j)) (ht : TestN X c scope j R)
    (hs : ∀ x, foldedSetIterable ie X.env x = pure x := by intro _; rfl) :
    PE X (.ListComp (.Name y p1) [⟨.Name y p2, ie, [c], 0⟩] scope pos) (tNoneE X.K te R) := by
  refine ⟨fun pins s σ H Q I hred => ?_⟩
  rw [eval_ListComp]
  have cellsOk : ∀ q ∈ scope.names, q.2 = .free → ∃ c, X.env.cells.lookup q.1 = some c := fun q hq e => (ok.free q hq e).elim (fun k => I.ok.has _ (.inl k)) fun k => I.ok.has _ (.inr k)
  have iter := (pi_list (tg := .Name y p2) hie).run pins s σ H _ I hred
  refine wpAny_comprehension_free rfl hs (closure_ok cellsOk) ok.kind (fun q hq e => (ok.uniq q hq).trans (congrArg some e)) (thn iter fun _ _ h1 => thn h1 fun _ s1 h2 => ?_)
  obtain ⟨it, fp, tn, J, H1, rfl, I1, T, t1, f1, a, xs, W, rfl, hq, w0, wk, ws, wE⟩ := h2
  refine wpAny_newObj_type (newEnv_comp ?_) (Nat.zero_le _)
  obtain ⟨D, eD⟩ : ∃ D, D = s1.heap.objs.size := ⟨_, rfl⟩
  have fresh : H1 D = none := I1.hok.fresh (by rw [eD]; exact Nat.le_refl _)
  obtain ⟨lo, elo⟩ : ∃ lo : Obj, lo = { cls := .type "list", data := .seq ([] : List Value).toArray } := ⟨_, rfl⟩
  obtain ⟨s2, e2⟩ : ∃ s2 : Shared, s2 = { s1 with heap := s1.heap.push lo } := ⟨_, rfl⟩
  have up2 : ∀ b o, s1.heap.get? b = some o → s2.heap.get? b = some o := fun b o q => by rw [e2]; exact Heap.get?_push_of_some _ q
  have at2 : s2.heap.get? D = some lo := by
    rw [e2, eD]
    exact Heap.get?_push_size _ (by rw [elo]; rfl)
  have I2 : Inv X pins σ (upd H1 D (.lst [])) s2 := by
    rw [e2]
    refine I1.laid (t' := s1.toks) (fun b o q => Heap.get?_push_of_some _ q) (by rw [eD]; exact Nat.le_refl _) ⟨Nat.zero_le _, [], 0, .nil, ?_⟩
    rw [e2] at at2
    rw [elo] at at2 ⊢
    exact at2
  have f2 : ∀ b ∈ fp, FpOk X pins (upd H1 D (.lst [])) b ∧ b < s2.heap.objs.size := fun b hb => by
    obtain ⟨o, q, _⟩ := T.obj _ _ t1 b hb
    have lt := Heap.lt_size q
    have nD : b ≠ D := fun z => by rw [z, eD] at lt; exact Nat.lt_irrefl _ lt
    exact ⟨⟨(upd_ne nD).trans (f1 b hb).1, (f1 b hb).2⟩, Heap.lt_size (up2 b o q)⟩
  obtain ⟨ce, ece⟩ : ∃ ce, ce = compEnvC scope (cellsFrom (s2.heap.objs.size + 1) scope.names (cloFrom X.env.cells scope.names [])) s2.heap.objs.size X.env := ⟨_, rfl⟩
  have locE : ce.locals = s2.heap.objs.size := by rw [ece]; rfl
  obtain ⟨s3, e3⟩ : ∃ s3 : Shared, s3 = { s2 with heap := pushCells (s2.heap.push { cls := .type "dict", data := .dict #[] }) scope.names } := ⟨_, rfl⟩
  have up3 : ∀ b o, s2.heap.get? b = some o → s3.heap.get? b = some o := fun b o q => by rw [e3]; exact pushCells_keeps _ _ _ _ (Heap.get?_push_of_some _ q)
  have I3 : Inv (X.blk s2 (upd H1 D (.lst [])) scope ce fp) [] (wipe σ [j]) (upd H1 D (.lst [])) s3 := by
    rw [ece, e3]
    exact block_start I2 ok hN f2
  have t3 : tn 0 s3.heap := T.keep _ _ _ t1 fun b _ o q => up3 b o (up2 b o q)
  have test := ht pins s2 σ (upd H1 D (.lst [])) I2 s2.heap.objs.size (cellsFrom (s2.heap.objs.size + 1) scope.names (cloFrom X.env.cells scope.names [])) fp f2
  have target := hg s2 (upd H1 D (.lst [])) s2.heap.objs.size (cellsFrom (s2.heap.objs.size + 1) scope.names (cloFrom X.env.cells scope.names [])) fp
  rw [← ece] at test target
  have nfp0 : ∀ b ∈ fp, upd H1 D (.lst []) b = none := fun b hb => (f2 b hb).1.1
  have W0 := w0 D fresh
  have here : ∀ {τ : L2.St} {G : Hp} {t : Shared}, Inv (X.blk s2 (upd H1 D (.lst [])) scope ce fp) [] τ G t → (∀ b ∈ fp, G b = none) → ∀ b ∈ fp, FpOk (X.blk s2 (upd H1 D (.lst [])) scope ce fp) [] G b := fun {τ G t} K n b hb =>
    ⟨n b hb, (K.ok.exf b hb).1, K.ok.exfs b hb, .inl hb, fun q c e => (K.ok.exf b hb).2 q c e, fun p hp => absurd (show p ∈ ([] : List (Addr × Obj)) ++ [] from hp) (by simp)⟩
  have post : ∀ {τ : L2.St} {G : Hp} {t : Shared}, Inv (X.blk s2 (upd H1 D (.lst [])) scope ce fp) [] τ G t → W D xs.length G → compPost (model X.prog X.w) X.A X.xe none (EP X pins σ Q) (.ref D) s2.heap.objs.size (.ok .next) t := fun {τ G t} K w => by
    obtain ⟨m, hn, _⟩ := K.loc
    have hn : t.heap.Ns ce.locals m := hn
    rw [locE] at hn
    refine ⟨m, hn, fun h' sb => ?_⟩
    have KX := back I2 f2 K
    have nC : G s2.heap.objs.size = none := by
      have z : G ce.locals = none := K.free
      rwa [locE] at z
    obtain ⟨g0, g1, g2, g3, g4, g5⟩ := I2.fpOk (Nat.le_refl _) nC
    exact ⟨.ref D, G, KX.turned (t' := t.toks) (fun b o hb e => (sb.2 b hb).trans e) g0 g1 g3 g4 g5, rfl, wE D G w⟩
  have loop : codeAny (model X.prog X.w) X.A (.compLoop (.ListComp (.Name y p1) [⟨.Name y p2, ie, [c], 0⟩] scope pos) 0 (.ref it) (.ref D) ce) (compPost (model X.prog X.w) X.A X.xe none (EP X pins σ Q) (.ref D) s2.heap.objs.size) s3 := by
    refine compLoop_any (fun left t => ∃ n G, Inv (X.blk s2 (upd H1 D (.lst [])) scope ce fp) [] (wipe σ [j]) G t ∧ tn n t.heap ∧ (∀ b ∈ fp, G b = none) ∧ W D n G ∧ n + left = xs.length) ?_ xs.length ⟨0, _, I3, t3, nfp0, W0, by omega⟩
    rintro left t4 ⟨n, G, I4, u4, n4, w4, en⟩
    by_cases hlt : n < xs.length
    · have hx : xs[n]? = some xs[n] := List.getElem?_eq_getElem hlt
      refine thnF (T.item (X.blk s2 (upd H1 D (.lst [])) scope ce fp) rfl rfl rfl hc n [] t4 _ G (fun _ _ => False) I4 (here I4 n4) u4 ⟨xs, xs[n], wk D n G w4, hx⟩) fun r t5 ⟨u, er, h5⟩ => ?_
      subst er
      refine thnF h5 fun _ t6 ⟨x, G6, I6, r6, y6, u6, n6⟩ => ?_
      obtain ⟨eG, ex⟩ := y6
      subst eG
      have exn : xs[n] = x := Option.some.inj (hx.symm.trans (ex xs (wk D n G6 w4)))
      have I6p := I6.pinned (here I6 n6) (T.obj _ _ u6)
      have jl : j < (wipe σ [j]).length := by
        rw [wipe_length, I.len]
        exact (List.getElem?_eq_some_iff.mp (ok.ix (y, j) (List.mem_singleton.mpr rfl))).1
      refine thnF (target.run _ t6 _ G6 x u (fun τ K => τ = (wipe σ [j]).set j (some x) ∧ K = G6) I6p r6 ⟨rfl, rfl⟩) fun _ t7 ⟨τ, K, I7, eτ, eK⟩ => ?_
      subst eτ eK
      refine wpAny_tests_one (thnF (test _ t7 _ K (W D (n + 1)) x I7 (List.getElem?_set_self jl) (ws D n x K (by rw [hx, exn]) w4)) fun b t8 ⟨eb, K8, I8, w8⟩ => ?_)
      subst eb
      have stay : ∀ b ∈ fp, ∀ o, t6.heap.get? b = some o → t8.heap.get? b = some o ∧ K8 b = none := fun b hb o e =>
        have q := I8.pin (b, o) (List.mem_append_right _ (List.mem_append_right _ (mem_pinsAt hb e)))
        ⟨q.1, q.2.1⟩
      refine ⟨left - 1, by omega, n + 1, K8, (I8.unpinned (pins := [])).weak (by rw [List.length_set]) (fun k v e => ?_), T.keep _ _ _ u6 fun b hb o e => (stay b hb o e).1, fun b hb => ?_, w8, by omega⟩
      · have z := wipe_some (σ := σ) (vs := [j]) e
        rw [List.getElem?_set_ne (fun q => z.2 (by rw [q]; exact List.mem_singleton.mpr rfl))]
        exact e
      · obtain ⟨o, e, _⟩ := T.obj _ _ u6 b hb
        exact (stay b hb o e).2
    · refine thnF (T.done (X.blk s2 (upd H1 D (.lst [])) scope ce fp) rfl rfl rfl hc n [] t4 _ G (fun _ _ => False) I4 (here I4 n4) u4 ⟨xs, wk D n G w4, by omega⟩) fun r t5 ⟨er, I5⟩ => ?_
      subst er
      have enx : n = xs.length := by omega
      rw [enx] at w4
      exact post I5 w4
  have fin := codeAny_compStart_list loop (T.self X.A 0 _ _ _ t3 loop)
  rw [ece, e3] at fin
  subst e2 elo
  rw [eD] at fin
  exact fin
end
end AsLcC

set_option maxHeartbeats 4000000
set_option autoImplicit false
/-! a lambda that is made and asked on the spot, also in a comprehension's block whose name it captures. -/
namespace AsAskB
open PySem PySem.Spec PyProof.Rows L2 AsSort AsKit AsAct
open Evl (Ex Ev EvT EvA)
open LamX (ExtN TabB)
open NdefX (TabsN NTab)
theorem seqN_ {K : PySem.W.Frag} {H H' : Hp} {a : Addr} {xs : List V} (e : ExtN H H') (s : SqL K H a xs) : SqL K H' a xs := by
  rcases s with (s | ⟨o, s⟩) | s
  · exact .inl (.inl (e _ _ s fun _ z => nomatch z))
  · exact .inl (.inr ⟨o, e _ _ s fun _ z => nomatch z⟩)
  · exact .inr s
theorem tupN_ {K : PySem.W.Frag} {H H' : Hp} {a : Addr} {xs : List V} (e : ExtN H H') (s : SqT K H a xs) : SqT K H' a xs := by
  rcases s with (s | ⟨o, s⟩) | s
  · exact .inl (.inl (e _ _ s fun _ z => nomatch z))
  · exact .inl (.inr ⟨o, e _ _ s fun _ z => nomatch z⟩)
  · exact .inr s
mutual
theorem dpN_ {K : PySem.W.Frag} {G G' : Hp} (e : ExtN G G') : ∀ {v : V} {d : PyData}, Dp K G v d → Dp K G' v d
  | _, _, .non => .non
  | _, _, .bl b => .bl b
  | _, _, .int i => .int i
  | _, _, .str x => .str x
  | _, _, .lst a b => .lst (seqN_ e a) (dpAllN_ e b)
  | _, _, .tup a b => .tup (tupN_ e a) (dpAllN_ e b)
theorem dpAllN_ {K : PySem.W.Frag} {G G' : Hp} (e : ExtN G G') : ∀ {vs : List V} {ds : List PyData}, DpAll K G vs ds → DpAll K G' vs ds
  | _, _, .nil => .nil
  | _, _, .cons a b => .cons (dpN_ e a) (dpAllN_ e b)
end
theorem tabs_keep {T : List NTab} {H H' : Hp} (t : TabsN T H) (h1 : ∀ b ps, H b = some (.tbl ps) → H' b = some (.tbl ps)) (h2 : ∀ b c q, H b = some (LamX.CodeO c q) → H' b = some (LamX.CodeO c q)) : TabsN T H' := fun p hp => by
  obtain ⟨ps, t1, t2, t3⟩ := t p hp
  refine ⟨ps, h1 _ _ t1, t2, fun pos cv hc => ?_⟩
  obtain ⟨c, e1, e2⟩ := t3 pos cv hc
  exact ⟨c, e1, h2 _ _ _ e2⟩
theorem tabs_upd {T : List NTab} {H : Hp} {D : Addr} {xs : List V} {o : HO} (t : TabsN T H) (h : H D = some (.lst xs)) : TabsN T (upd H D o) :=
  tabs_keep t (fun b ps hb => (upd_ne fun z => by rw [z, h] at hb; cases hb).trans hb) fun b c q hb => (upd_ne fun z => by rw [z, h] at hb; have e := Option.some.inj hb; unfold LamX.CodeO at e; cases e).trans hb
abbrev TTx := (XK → Hp → VK → Prop) → Hp → VK → Prop
/-- x(lambda: ..) -/
def tAskN (T : List NTab) (TT : TTx) (t : XK → TE) : TE := fun σ H Q => TabsN T H ∧ ∀ G, ExtN H G → TabsN T G → TT (fun E H' Q' => t E σ H' Q') G Q
section
variable {X : Cx} {T : List NTab} {k : Nat}
theorem pe_askN {TT : TTx} {t : XK → TE} {L : Lw} {x : Str} {st : Stmt} {g : Addr} {cdg : Value} {Ng : List Str} {e : Expr} {p pos : Pos} (D : AskD X.K X.mg x st g cdg) (hg : Gl X x) (Sg : FnScope Ng ["call"] (defScope st)) (hNg : Ng[0]? = some ("call" : Str)) (hva : Vis (defScope st) "call")
    (hG : GivesA X Ng x (defScope st) g cdg (defBody st) "call" TT) (hr : Room (k + 2) X.A) (he : PE X e (tLm X T L)) (hP : LmP X k L t) (hdb : (x == ("__debug__" : Str)) = false := by decide) (hs : starEach [e] X.env = (false, eval e X.env) :: starEach [] X.env := by rfl) :
    PE X (.Call (.Name x p) [e] [] pos) (tAskN T TT t) := ⟨fun pins s σ H Q I ⟨hT, h⟩ => (pe_ask D hg Sg hNg hva hG hr he hdb hs).run pins s σ H Q I ⟨hT, fun f G e2 t2 n m => ⟨f, L, t, rfl, rfl, m, hP, h G e2 t2⟩⟩⟩
end
section
variable {K : PySem.W.Frag} {T : List NTab} {TT : TTx} {t : XK → TE} {σ : L2.St} {H : Hp} {j : Nat} {te : TE} {ds : List PyData} {wd : V}
/-- [x(lambda: ..) for y in ..], all answers alike -/
theorem lc_asks {Q : VK} (h : EvD K te σ H (.list ds)) (hT : TabsN T H) (hl : ds.length ≤ 1000)
    (a : ∀ d ∈ ds, ∀ v G, ExtN H G → TabsN T G → Dp K G v d → ∀ Q : VK, (∀ G', ExtN G G' → TabsN T G' → Q wd G') → TT (fun E H' Q' => t E ((wipe σ [j]).set j (some v)) H' Q') G Q)
    (q : ∀ p G, ExtN H G → TabsN T G → G p = some (.lst (List.replicate ds.length wd)) → Q (.ref p) G) : tLc (iList K te) (gName j) tYes (tAskN T TT t) [j] σ H Q := by
  refine h H (Ex.refl H) _ fun v H1 e hv => ?_
  cases hv with
  | lst hq hx =>
    have hT1 := hT.ext e
    refine ⟨_, rfl, ⟨_, hq⟩, fun D hD => lc_list (fun i G => ExtN H1 G ∧ TabsN T G ∧ G D = some (.lst (List.replicate i wd))) ⟨ExtN.of (Ex.new hD), hT1.ext (Ex.new hD), upd_same⟩ (fun i H' _ p => seqN_ p.1 hq) (fun i y H' hi p => ?_) fun H' p => ?_⟩
    · obtain ⟨p1, p2, p3⟩ := p
      have hi2 : i < ds.length := by rw [← dpAll_len hx]; exact (List.getElem?_eq_some_iff.mp hi).1
      have hd : ds[i]? = some ds[i] := List.getElem?_eq_getElem hi2
      refine ⟨by show ((σ.set j none).set j _).set j none = σ.set j none; rw [List.set_set, List.set_set], ?_⟩
      refine ⟨p2, fun G e2 t2 => ?_⟩
      refine a _ (List.getElem_mem hi2) y G ((ExtN.of e).trans (p1.trans e2)) t2 (dpN_ (p1.trans e2) (dpAll_get hx hi hd)) _ fun G' e3 t3 => ?_
      have h3 : G' D = some (.lst (List.replicate i wd)) := e3 _ _ (e2 _ _ p3 fun _ z => nomatch z) fun _ z => nomatch z
      refine ⟨_, h3, Evl.sz_lt (by rw [List.length_replicate]; omega), ?_⟩
      have ne : ∀ b u, H1 b = some u → b ≠ D := fun b u hb z => by rw [z, hD] at hb; cases hb
      have eD : ∀ b u, G' b = some u → b ≠ D → (upd G' D (.lst (List.replicate i wd ++ [wd]))) b = some u := fun b u hb hne => (upd_ne hne).trans hb
      exact ⟨fun b u hb nt => eD _ _ (((p1.trans e2).trans e3) b u hb nt) (ne b u hb), tabs_upd t3 h3, by rw [upd_same, List.replicate_succ']⟩
    · rw [dpAll_len hx] at p
      exact q D H' ((ExtN.of e).trans p.1) p.2.1 p.2.2
end
end AsAskB

set_option maxHeartbeats 4000000
set_option autoImplicit false
/-! the law's own def that calls what it gets, and tells its error. -/
namespace K14
open PySem PySem.Spec PyProof.Rows L2 AsSort AsKit AsToo AsTry AsAct
open Evl (Ex Ev EvT EvA)
abbrev sError : Stmt := top 97
abbrev nErr : List Str := ["call", "e"]
theorem sc_error : FnScope nErr ["call"] (defScope sError) := ⟨rfl, rfl, rfl, by decide +kernel, rfl, by decide +kernel, by decide +kernel⟩
/-- the classes of errors -/
structure Cs where
  cL : Addr
  cK : Addr
  cT : Addr
  cM : Addr
  cR : Addr
  cS : Addr
/-- the classes, and which clause takes which -/
structure Ers (K : PySem.W.Frag) (mg : Str → Option Value) (c : Cs) : Prop where
  gcL : mg "BadLetters" = some (.ref c.cL)
  gcK : mg "BadKinds" = some (.ref c.cK)
  gcT : mg "BadText" = some (.ref c.cT)
  gcM : mg "TooLong" = some (.ref c.cM)
  gcR : mg "BadReader" = some (.ref c.cR)
  gcS : mg "ScribeError" = some (.ref c.cS)
  m00 : PySem.W.exmOne K (.ref c.cL) (.ref c.cL) = some true
  m10 : PySem.W.exmOne K (.ref c.cK) (.ref c.cL) = some false
  m11 : PySem.W.exmOne K (.ref c.cK) (.ref c.cK) = some true
  m20 : PySem.W.exmOne K (.ref c.cT) (.ref c.cL) = some false
  m21 : PySem.W.exmOne K (.ref c.cT) (.ref c.cK) = some false
  m22 : PySem.W.exmOne K (.ref c.cT) (.ref c.cT) = some true
  m30 : PySem.W.exmOne K (.ref c.cM) (.ref c.cL) = some false
  m31 : PySem.W.exmOne K (.ref c.cM) (.ref c.cK) = some false
  m32 : PySem.W.exmOne K (.ref c.cM) (.ref c.cT) = some false
  m33 : PySem.W.exmOne K (.ref c.cM) (.ref c.cM) = some true
  m40 : PySem.W.exmOne K (.ref c.cR) (.ref c.cL) = some false
  m41 : PySem.W.exmOne K (.ref c.cR) (.ref c.cK) = some false
  m42 : PySem.W.exmOne K (.ref c.cR) (.ref c.cT) = some false
  m43 : PySem.W.exmOne K (.ref c.cR) (.ref c.cM) = some false
  m44 : PySem.W.exmOne K (.ref c.cR) (.ref c.cR) = some true
  vcM : PySem.W.kitCls K (.ref c.cM) (.type "ValueError") = some true
  xcM : XfC K c.cM
  fcM : PySem.W.findIn K (.ref c.cM) "most" = some none
def prs (c : Cs) : List (Addr × Str) := [(c.cL, "BadLetters"), (c.cK, "BadKinds"), (c.cT, "BadText"), (c.cR, "BadReader")]
/-- a class and a number of its own -/
def Num (C : Addr) (f w : Str) (Q : VK) : XK := fun cls d H => cls = .ref C ∧ ∃ (m : Addr) (n : Int), d = some m ∧ H m = some (.xd [(f, .int n)]) ∧ ∀ p, H p = none → Q (.ref p) (upd H p (.tup [.str w, .int n]))
/-- what comes of an error -/
def Eer (c : Cs) (Q : VK) : XK := fun cls d H => (∃ p ∈ prs c, cls = .ref p.1 ∧ Q (.str p.2) H) ∨ Num c.cM "most" "TooLong" Q cls d H
def TTe (c : Cs) : AsAskB.TTx := fun tl H Q => tl (Eer c Q) H (fun _ H' => Q (.str "") H')
section
variable {X : Cx}
theorem gives_err {c : Cs} {g : Addr} {cdg : Value} (F : Ers X.K X.mg c) (hb : Bl X.mg) (hv : X.mg "ValueError" = none) : GivesA X nErr "_law_error" (defScope sError) g cdg (defBody sError) "call" (TTe c) := by
  intro f s H Q PH tl act hp ht
  have plain : ∀ (z : Str) (n : Nat) (p1 p2 : Pos) (a : Addr) (oe : Obj) (cls : Value) (d : Option Addr) (pn : List (Addr × Obj)), Zc cls d oe → (∃ vs, oe.data = .fields vs) →
      PSs ((cxOf C8.CX0 X.prog X.w X.K X.mg X.base nErr "_law_error" (defScope sError) g cdg X.A X.stack s H C8.E0).nox.suite a ((a, oe) :: pn)) [.Return (some (.Constant (.str z) n p1)) p2] (fun D _ H => D.rt (.str z) H) := fun z n p1 p2 a oe cls d pn _ _ => pss_one (ps_ret pe_str)
  refine ⟨_, pss_cons (ps_tryMix (X := (cxOf C8.CX0 X.prog X.w X.K X.mg X.base nErr "_law_error" (defScope sError) g cdg X.A X.stack s H C8.E0).nox)
      (tb := fun W D σ H => ∃ Ech : XK, (∀ cls d σ' H', Ech cls d H' → W cls d σ' H') ∧ σ[0]? = some (some (.ref f)) ∧ PH H ∧ tl Ech H (fun _ H' => D.nx σ H'))
      rfl rfl takes_none5 (fun W pn xe tk _ => ⟨fun pins s' σ H' D I ⟨Ech, hW, h1, h2, h3⟩ => (pss_one (ps_expr (act W pn xe Ech _ _ tk hW))).run pins s' σ H' D I ⟨h1, h2, h3⟩⟩)
      (.cons (.plain (c := .ref c.cL) ⟨by rfl, by decide, .inl F.gcL⟩ (plain _ _ _ _)) (.cons (.plain (c := .ref c.cK) ⟨by rfl, by decide, .inl F.gcK⟩ (plain _ _ _ _)) (.cons (.plain (c := .ref c.cT) ⟨by rfl, by decide, .inl F.gcT⟩ (plain _ _ _ _)) (.cons (.named (c := .ref c.cM) (i := 1) (ts := fun a cls d D σ H => cls = .ref c.cM ∧ σ[1]? = some (some (.ref a)) ∧ ∃ (m : Addr) (n : Int), d = some m ∧ H m = some (.xd [("most", .int n)]) ∧ ∀ p, H p = none → D.rt (.ref p) (upd H p (.tup [.str "TooLong", .int n]))) ⟨by rfl, by decide, .inl F.gcM⟩ sc_error.nd rfl rfl
        (fun a oe cls d pn hz hf => ⟨fun pins s' σ H' D I ⟨ec, es, m, n, ed, hm, q⟩ => ?_⟩))
      (.cons (.plain (c := .ref c.cR) ⟨by rfl, by decide, .inl F.gcR⟩ (plain _ _ _ _)) (.cons (.plain (c := .ref c.cS) ⟨by rfl, by decide, .inl F.gcS⟩ (plain _ _ _ _)) .nil)))))))
    (pss_one (ps_ret pe_str)), ?_⟩
  · subst ec
    refine PSs.run (X := (cxOf C8.CX0 X.prog X.w X.K X.mg X.base nErr "_law_error" (defScope sError) g cdg X.A X.stack s H C8.E0).nox.suite a ((a, oe) :: pn)) (pss_one (ps_ret (pe_ifExp (pt_val (pe_callB (call_isV F.vcM hz) (by rfl) (hb "isinstance" (by decide +kernel)) (by decide +kernel) (pa_cons (pv 1) (pa_cons (pe_bltn (v := .ty "ValueError") (by rfl) hv PyProof.Rows.Boot.«ValueError» rfl) pa_nil))))
      (pe_tup (pa_cons pe_str (pa_cons (pe_xf F.xcM F.fcM hz hf (pv 1)) pa_nil))) pe_str))) pins s' σ H' D I ?_
    refine ⟨_, es, rfl, true, rfl, ?_⟩
    dsimp only
    rw [if_pos rfl]
    exact ⟨_, es, rfl, rfl, m, _, _, ed, hm, rfl, Evl.sz_of (by show 2 ≤ 100000; decide), fun p np => q p np⟩
  refine ⟨Eer c Q, fun cls d σ' H' e => ?_, rfl, hp, ht⟩
  rcases e with ⟨p, hm, rfl, q⟩ | ⟨rfl, m, n, e1, e2, q⟩
  · simp only [prs, List.mem_cons, List.not_mem_nil, or_false] at hm
    rcases hm with rfl | rfl | rfl | rfl
    · exact ⟨true, F.m00, fun _ a na => q, (fun z => nomatch z)⟩
    · exact ⟨false, F.m10, (fun z => nomatch z), fun _ => ⟨true, F.m11, fun _ a na => q, (fun z => nomatch z)⟩⟩
    · exact ⟨false, F.m20, (fun z => nomatch z), fun _ => ⟨false, F.m21, (fun z => nomatch z), fun _ => ⟨true, F.m22, fun _ a na => q, (fun z => nomatch z)⟩⟩⟩
    · exact ⟨false, F.m40, (fun z => nomatch z), fun _ => ⟨false, F.m41, (fun z => nomatch z), fun _ => ⟨false, F.m42, (fun z => nomatch z), fun _ => ⟨false, F.m43, (fun z => nomatch z), fun _ => ⟨true, F.m44, fun _ a na => q, (fun z => nomatch z)⟩⟩⟩⟩⟩
  · exact ⟨false, F.m30, (fun z => nomatch z), fun _ => ⟨false, F.m31, (fun z => nomatch z), fun _ => ⟨false, F.m32, (fun z => nomatch z), fun _ => ⟨true, F.m33, fun _ a na hs => ⟨rfl, hs, m, n, e1, e2, q⟩, (fun z => nomatch z)⟩⟩⟩⟩
end
end K14

set_option maxHeartbeats 4000000
set_option autoImplicit false
/-! the law's lambdas. -/
namespace K14
open PySem PySem.Spec PyProof.Rows L2 AsSort AsKit AsToo AsTry AsAct AsLcC AsLoose
open Evl (Ex Ev EvT EvA)
open LamX (ExtN TabB lamCx)
open NdefX (TabsN TabN NTab)
section
variable {K : PySem.W.Frag}
theorem row_extN {S : Addr × List Int} {H H' : Hp} {r : Addr} (e : ExtN H H') (h : Row K S H r) : Row K S H' r := by
  obtain ⟨a, b, c, h1, h2, h3, h4⟩ := h
  refine ⟨a, b, c, e _ _ h1 (fun ps z => by cases z), h2, fun G bt => ?_, h4⟩
  have z := h3 (upd H r (.tup [])) bt_upd
  have go : ∀ o, upd H r (.tup []) S.1 = some o → (∀ xs, o ≠ .tup xs) → (∀ ps, o ≠ .tbl ps) → G S.1 = some o := fun o q n1 n2 => by
    have ne : S.1 ≠ r := fun y => by
      rw [y, upd_same] at q
      exact n1 _ (Option.some.inj q).symm
    rw [upd_ne ne] at q
    exact bt _ _ ne (e _ _ q n2)
  rcases z with (z | ⟨o, z⟩) | z
  · exact .inl (.inl (go _ z (fun xs y => by cases y) fun ps y => by cases y))
  · exact .inl (.inr ⟨o, go _ z (fun xs y => by cases y) fun ps y => by cases y⟩)
  · exact .inr z
theorem tabs_bt {Ts : List NTab} {S : Addr × List Int} {H H' : Hp} {r : Addr} (h : Row K S H r) (b : Bt r H H') (t : TabsN Ts H) : TabsN Ts H' := fun p hp => by
  obtain ⟨a, x, y, h1, _⟩ := h
  obtain ⟨ps, t1, t2, t3⟩ := t p hp
  refine ⟨ps, b _ _ (fun z => by rw [z, h1] at t1; cases t1) t1, t2, fun pos cv hc => ?_⟩
  obtain ⟨c, e1, e2⟩ := t3 pos cv hc
  refine ⟨c, e1, b _ _ (fun z => ?_) e2⟩
  rw [z, h1] at e2
  have e3 := Option.some.inj e2
  unfold LamX.CodeO at e3
  cases e3
variable {σ : L2.St} {H : Hp} {ta tb : TE}
/-- a text, n times -/
def rMulS : R2 := fun x y H Q => ∃ (a : Str) (n : Int), x = .str a ∧ y = .int n ∧ MulOk a n ∧ Q (.str (Txt.mul a n)) H
theorem op_mulS {X : Cx} : OpR X (binaryOp .Mult) rMulS := by
  intro pins s σ H x y v u Q I rx ry h
  obtain ⟨a, n, rfl, rfl, ok, q⟩ := h
  obtain ⟨t, rfl⟩ := rx
  obtain ⟨t2, rfl⟩ := ry
  exact SB.mul ok fun t' k => ⟨.str (Txt.mul a n), H, I.tok k, ⟨t', rfl⟩, q⟩
theorem d_mulS {a : Str} {n : Int} (h : EvD K ta σ H (.str a)) (h2 : EvD K tb σ H (.int n)) (ok : MulOk a n) : EvD K (tOp rMulS ta tb) σ H (.str (Txt.mul a n)) := fun H1 x Q q =>
  h H1 x _ fun v H2 e hv => h2 H2 (x.trans e) _ fun w H3 e3 hw => by
    cases hv
    cases hw
    exact ⟨a, n, rfl, rfl, ok, q _ H3 (e.trans e3) (.str _)⟩
/-- a list of its own -/
def EvLD (K : PySem.W.Frag) (te : TE) (σ : L2.St) (H : Hp) (ds : List PyData) : Prop := ∀ H1, Ex H H1 → ∀ Q : VK, (∀ p vs H2, Ex H1 H2 → H2 p = some (.lst vs) → DpAll K H2 vs ds → Q (.ref p) H2) → te σ H1 Q
theorem dpAll_app {G : Hp} {ws : List V} {es : List PyData} (h2 : DpAll K G ws es) : ∀ {vs : List V} {ds : List PyData}, DpAll K G vs ds → DpAll K G (vs ++ ws) (ds ++ es)
  | [], [], .nil => h2
  | _ :: _, _ :: _, .cons a b => .cons a (dpAll_app h2 b)
theorem ld_lst {tl : TA} {ds : List PyData} (h : EvDs K tl σ H ds) (hl : ds.length ≤ 100000) : EvLD K (tLst tl) σ H ds := fun H1 x Q q =>
  h H1 x _ fun vs H2 e hv => ⟨Evl.sz_of (by rw [dpAll_len hv]; exact hl), fun p np => q p vs _ (e.trans (Ex.new np)) upd_same (dpAll_ex (Ex.new np) hv)⟩
theorem ld_var {i : Nat} {p : Addr} {vs : List V} {ds : List PyData} (hs : σ[i]? = some (some (.ref p))) (hp : H p = some (.lst vs)) (hd : DpAll K H vs ds) : EvLD K (tVar i) σ H ds := fun H1 x Q q => ⟨_, hs, q p vs H1 (Ex.refl H1) (x _ _ hp) (dpAll_ex x hd)⟩
theorem ld_cat {ds es : List PyData} (h : EvLD K ta σ H ds) (h2 : EvLD K tb σ H es) (hl : ds.length + es.length ≤ 1000) : EvLD K (tOp rCat ta tb) σ H (ds ++ es) := fun H1 x Q q =>
  h H1 x _ fun p vs H2 e hp hv => h2 H2 (x.trans e) _ fun b ws H3 e3 hb hw =>
    ⟨p, b, vs, ws, rfl, rfl, e3 _ _ hp, hb, Evl.sz_of (by rw [dpAll_len hv, dpAll_len hw]; omega), fun r nr => q r _ _ ((e.trans e3).trans (Ex.new nr)) upd_same (dpAll_app (dpAll_ex (Ex.new nr) hw) (dpAll_ex (e3.trans (Ex.new nr)) hv))⟩
theorem ld_d {ds : List PyData} {te : TE} (h : EvLD K te σ H ds) : EvD K te σ H (.list ds) := fun H1 x Q q => h H1 x Q fun p vs H2 e hp hv => q _ H2 e (.lst (Evl.sq_of hp) hv)
end
abbrev nLaw : List Str := ["script", "row", "letters", "kinds", "reader", "last", "bad", "calls", "call", "long", "due", "odd", "value"]
theorem sc_law : FnScope nLaw ["script"] (defScope sLaw) := ⟨rfl, rfl, rfl, by decide +kernel, rfl, by decide +kernel, by decide +kernel⟩
def noS : Stmt := .Pass ⟨0, 0, 0, 0⟩
def noE : Expr := .Constant .none 0 ⟨0, 0, 0, 0⟩
def stB : Stmt → List Stmt
  | .For _ _ b _ _ => b
  | .If _ b _ _ => b
  | _ => []
def stT : Stmt → Expr
  | .If t _ _ _ => t
  | .Assign _ v _ => v
  | .Return (some e) _ => e
  | _ => noE
def exA : Expr → List Expr
  | .List es _ => es
  | .Call _ as _ _ => as
  | .BoolOp _ es _ => es
  | .BinOp _ _ (.List es _) _ => es
  | _ => []
def exL : Expr → Expr
  | .Compare l _ _ _ => l
  | e => e
def exI : Expr → Expr
  | .ListComp _ (⟨_, it, _, _⟩ :: _) _ _ => it
  | e => e
def exE : Expr → Expr
  | .ListComp e _ _ _ => e
  | e => e
def exS : Expr → Scope
  | .ListComp _ _ s _ => s
  | _ => ⟨.function, [], false, false, []⟩
def lw (e : Expr) (bn : List Str) : Lw := match e with
  | .Lambda p b s _ => ⟨p, b, s, bn⟩
  | _ => ⟨⟨[], [], none, [], [], none, []⟩, noE, ⟨.function, [], false, false, []⟩, bn⟩
def st (i : Nat) : Stmt := (defBody sLaw).getD i noS
def lamB (i j k : Nat) : Expr := (exA (stT ((stB (st i)).getD j noS))).getD k noE
def lam4 : Expr := (exA (exI (exL (stT ((stB (st 4)).getD 1 noS))))).getD 0 noE
def lam8 (k : Nat) : Expr := (exA ((exA (exL (stT (st 8)))).getD k noE)).getD 0 noE
def lam9 (k : Nat) : Expr := (exA ((exA (exL (stT ((stB (st 9)).getD 0 noS)))).getD k noE)).getD 0 noE
def lamR : Expr := (exA (exE (exL (stT (st 11))))).getD 0 noE
def isLam : Expr → Bool
  | .Lambda .. => true
  | _ => false
theorem lams_there : [(lamB 3 0 0), (lamB 3 0 1), (lamB 3 0 2), (lamB 4 0 0), (lamB 4 0 1), (lamB 4 0 2), lam4, (lamB 5 0 0), (lamB 5 0 1), (lamB 5 0 2), (lamB 5 1 0), (lamB 5 1 1), (lamB 5 1 2), (lam8 0), (lam8 1), (lam9 0), (lam9 1), lamR].map isLam = List.replicate 18 true := by decide +kernel
section
variable {P : Program} {w : World} {K : PySem.W.Frag} {mg : Str → Option Value} {base : Heap}
abbrev lawX (P : Program) (w : World) (K : PySem.W.Frag) (mg : Str → Option Value) (base : Heap) (f : Addr) (cdv : Value) (A : Around) (outer : List Env) (s : Shared) (H : Hp) (E : XK) : Cx := (cxOf C8.CX0 P w K mg base nLaw "law" (defScope sLaw) f cdv A outer s H E).nox
theorem bind0 {L : Lw} (h : L.bn = []) (hb : ∀ (q : Str) (cl : List (Str × Addr)) (doc pm ctv : Value) (c' : Addr), bindArgs (lfd L q cl .none doc pm ctv c') ⟨[], []⟩ = pure []) : ∀ (s : Shared) (q : Str) (cl : List (Str × Addr)) (dV doc pm ctv : Value) (c' : Addr) (ds : List Value), ds.length = L.bn.length →
    ((ds = [] ∧ dV = .none) ∨ (ds ≠ [] ∧ ∃ T, dV = .ref T ∧ s.heap.get? T = some (PySem.W.kdv_tup ds))) → BindsTo s (lfd L q cl dV doc pm ctv c') ⟨[], []⟩ (L.bn.zip ds) := fun s q cl dV doc pm ctv c' ds hl hd => by
  rcases hd with ⟨rfl, rfl⟩ | ⟨ne, _⟩
  · rw [h]
    exact .of_eq (hb _ _ _ _ _ _)
  · rw [h] at hl
    exact absurd (List.length_eq_zero_iff.mp hl) ne
theorem bind1 {L : Lw} {x : Str} (h : L.bn = [x]) (hb : ∀ (q : Str) (cl : List (Str × Addr)) (T : Addr) (doc pm ctv : Value) (c' : Addr) (v : Value) (s : Shared), s.heap.get? T = some (PySem.W.kdv_tup [v]) → BindsTo s (lfd L q cl (.ref T) doc pm ctv c') ⟨[], []⟩ [(x, v)]) : ∀ (s : Shared) (q : Str) (cl : List (Str × Addr)) (dV doc pm ctv : Value) (c' : Addr) (ds : List Value), ds.length = L.bn.length →
    ((ds = [] ∧ dV = .none) ∨ (ds ≠ [] ∧ ∃ T, dV = .ref T ∧ s.heap.get? T = some (PySem.W.kdv_tup ds))) → BindsTo s (lfd L q cl dV doc pm ctv c') ⟨[], []⟩ (L.bn.zip ds) := fun s q cl dV doc pm ctv c' ds hl hd => by
  rw [h] at hl
  obtain ⟨v, rfl⟩ := List.length_eq_one_iff.mp hl
  rcases hd with ⟨z, _⟩ | ⟨_, T, rfl, ho⟩
  · cases z
  · rw [h]
    exact hb _ _ _ _ _ _ _ _ _ ho
/-- the defs of the program, as they may raise -/
structure Fns (P : Program) (w : World) (K : PySem.W.Frag) (mg : Str → Option Value) (base : Heap) (c : Cs) : Prop where
  fe : Klx P w K mg base 9 "fewest" p4 (spXW K c.cL c.cK c.cT c.cM)
  wa : Klx P w K mg base 9 "way" p4 (spXWay K c.cL c.cK c.cT c.cM)
  le : Klx P w K mg base 9 "leads" p5 (spXLeads K c.cL c.cK c.cT)
  or : Klx P w K mg base 9 "origin" ["reader", "kinds", "text"] (spXOrigin K c.cR c.cK c.cT c.cM)
variable {c : Cs} {f : Addr} {cdv : Value} {A : Around} {outer : List Env} {s : Shared} {H : Hp} {E : XK} {s1 : Shared} {H1 : Hp} {C1 : Addr} {cl : List (Str × Addr)} {fp : List Addr}
abbrev L_l30 : Lw := lw (lamB 3 0 0) []
abbrev t_l30 (K : PySem.W.Frag) (c : Cs) : XK → TE := fun E' => tCall (spXW K c.cL c.cK c.cT c.cM) [] E' (tCons (tVar 6) (tCons (tC .non) (tCons (tC .non) (tCons (tC .non) tNil))))
theorem l30 (F : Fns P w K mg base c) : LmP (lawX P w K mg base f cdv A outer s H E) 9 L_l30 (t_l30 K c) := by
  obtain ⟨g, fd, F1, m1, k1, b1⟩ := F.fe
  refine ⟨lmS_by (show lmSB nLaw (defScope sLaw) L_l30 = true by decide +kernel), bind0 rfl (fun _ _ _ _ _ _ => by rfl), fun A' outer' s' H' E' f' c' hr => ?_⟩
  exact pe_call F1 (hr.mono (by decide)) (by rfl) m1 k1 b1 .nil (passes_call (takes_of rfl rfl rfl rfl) fun _ _ _ _ h => h) (pa_cons (pv 6) (pa_cons pe_non (pa_cons pe_non (pa_cons pe_non pa_nil))))
abbrev L_l31 : Lw := lw (lamB 3 0 1) ["a"]
abbrev t_l31 (K : PySem.W.Frag) (c : Cs) : XK → TE := fun E' => tCall (spXWay K c.cL c.cK c.cT c.cM) [] E' (tCons (tVar 6) (tCons (tC .non) (tCons (tC .non) (tCons (tC .non) tNil))))
theorem l31 (F : Fns P w K mg base c) : LmP (lawX P w K mg base f cdv A outer s H E) 9 L_l31 (t_l31 K c) := by
  obtain ⟨g, fd, F1, m1, k1, b1⟩ := F.wa
  refine ⟨lmS_by (show lmSB nLaw (defScope sLaw) L_l31 = true by decide +kernel), bind1 rfl (fun _ _ _ _ _ _ _ _ _ ho => .of_defaults rfl ho rfl rfl rfl), fun A' outer' s' H' E' f' c' hr => ?_⟩
  exact pe_call F1 (hr.mono (by decide)) (by rfl) m1 k1 b1 .nil (passes_call (takes_of rfl rfl rfl rfl) fun _ _ _ _ h => h) (pa_cons (pv 6) (pa_cons pe_non (pa_cons pe_non (pa_cons pe_non pa_nil))))
abbrev L_l32 : Lw := lw (lamB 3 0 2) ["b"]
abbrev t_l32 (K : PySem.W.Frag) (c : Cs) : XK → TE := fun E' => tCall (spXLeads K c.cL c.cK c.cT) [] E' (tCons (tVar 6) (tCons (tC .non) (tCons (tC .non) (tCons (tC .non) (tCons (tC .non) tNil)))))
theorem l32 (F : Fns P w K mg base c) : LmP (lawX P w K mg base f cdv A outer s H E) 9 L_l32 (t_l32 K c) := by
  obtain ⟨g, fd, F1, m1, k1, b1⟩ := F.le
  refine ⟨lmS_by (show lmSB nLaw (defScope sLaw) L_l32 = true by decide +kernel), bind1 rfl (fun _ _ _ _ _ _ _ _ _ ho => .of_defaults rfl ho rfl rfl rfl), fun A' outer' s' H' E' f' c' hr => ?_⟩
  exact pe_call F1 (hr.mono (by decide)) (by rfl) m1 k1 b1 .nil (passes_call (takes_of rfl rfl rfl rfl) fun _ _ _ _ h => h) (pa_cons (pv 6) (pa_cons pe_non (pa_cons pe_non (pa_cons pe_non (pa_cons pe_non pa_nil)))))
abbrev L_l40 : Lw := lw (lamB 4 0 0) []
abbrev t_l40 (K : PySem.W.Frag) (c : Cs) : XK → TE := fun E' => tCall (spXW K c.cL c.cK c.cT c.cM) [] E' (tCons (tVar 2) (tCons (tVar 6) (tCons (tC .non) (tCons (tC .non) tNil))))
theorem l40 (F : Fns P w K mg base c) : LmP (lawX P w K mg base f cdv A outer s H E) 9 L_l40 (t_l40 K c) := by
  obtain ⟨g, fd, F1, m1, k1, b1⟩ := F.fe
  refine ⟨lmS_by (show lmSB nLaw (defScope sLaw) L_l40 = true by decide +kernel), bind0 rfl (fun _ _ _ _ _ _ => by rfl), fun A' outer' s' H' E' f' c' hr => ?_⟩
  exact pe_call F1 (hr.mono (by decide)) (by rfl) m1 k1 b1 .nil (passes_call (takes_of rfl rfl rfl rfl) fun _ _ _ _ h => h) (pa_cons (pv 2) (pa_cons (pv 6) (pa_cons pe_non (pa_cons pe_non pa_nil))))
abbrev L_l41 : Lw := lw (lamB 4 0 1) ["a"]
abbrev t_l41 (K : PySem.W.Frag) (c : Cs) : XK → TE := fun E' => tCall (spXWay K c.cL c.cK c.cT c.cM) [] E' (tCons (tVar 2) (tCons (tVar 6) (tCons (tC .non) (tCons (tC .non) tNil))))
theorem l41 (F : Fns P w K mg base c) : LmP (lawX P w K mg base f cdv A outer s H E) 9 L_l41 (t_l41 K c) := by
  obtain ⟨g, fd, F1, m1, k1, b1⟩ := F.wa
  refine ⟨lmS_by (show lmSB nLaw (defScope sLaw) L_l41 = true by decide +kernel), bind1 rfl (fun _ _ _ _ _ _ _ _ _ ho => .of_defaults rfl ho rfl rfl rfl), fun A' outer' s' H' E' f' c' hr => ?_⟩
  exact pe_call F1 (hr.mono (by decide)) (by rfl) m1 k1 b1 .nil (passes_call (takes_of rfl rfl rfl rfl) fun _ _ _ _ h => h) (pa_cons (pv 2) (pa_cons (pv 6) (pa_cons pe_non (pa_cons pe_non pa_nil))))
abbrev L_l42 : Lw := lw (lamB 4 0 2) ["b"]
abbrev t_l42 (K : PySem.W.Frag) (c : Cs) : XK → TE := fun E' => tCall (spXLeads K c.cL c.cK c.cT) [] E' (tCons (tVar 2) (tCons (tVar 6) (tCons (tC .non) (tCons (tC .non) (tCons (tC .non) tNil)))))
theorem l42 (F : Fns P w K mg base c) : LmP (lawX P w K mg base f cdv A outer s H E) 9 L_l42 (t_l42 K c) := by
  obtain ⟨g, fd, F1, m1, k1, b1⟩ := F.le
  refine ⟨lmS_by (show lmSB nLaw (defScope sLaw) L_l42 = true by decide +kernel), bind1 rfl (fun _ _ _ _ _ _ _ _ _ ho => .of_defaults rfl ho rfl rfl rfl), fun A' outer' s' H' E' f' c' hr => ?_⟩
  exact pe_call F1 (hr.mono (by decide)) (by rfl) m1 k1 b1 .nil (passes_call (takes_of rfl rfl rfl rfl) fun _ _ _ _ h => h) (pa_cons (pv 2) (pa_cons (pv 6) (pa_cons pe_non (pa_cons pe_non (pa_cons pe_non pa_nil)))))
abbrev L_l43 : Lw := lw lam4 []
abbrev t_l43 (K : PySem.W.Frag) (c : Cs) : XK → TE := fun E' => tCall (spXOrigin K c.cR c.cK c.cT c.cM) [] E' (tCons (tVar 4) (tCons (tVar 6) (tCons (tC .non) tNil)))
theorem l43 (F : Fns P w K mg base c) : LmP (lawX P w K mg base f cdv A outer s H E) 9 L_l43 (t_l43 K c) := by
  obtain ⟨g, fd, F1, m1, k1, b1⟩ := F.or
  refine ⟨lmS_by (show lmSB nLaw (defScope sLaw) L_l43 = true by decide +kernel), bind0 rfl (fun _ _ _ _ _ _ => by rfl), fun A' outer' s' H' E' f' c' hr => ?_⟩
  exact pe_call F1 (hr.mono (by decide)) (by rfl) m1 k1 b1 .nil (passes_call (takes_of rfl rfl rfl rfl) fun _ _ _ _ h => h) (pa_cons (pv 4) (pa_cons (pv 6) (pa_cons pe_non pa_nil)))
abbrev L_l50 : Lw := lw (lamB 5 0 0) []
abbrev t_l50 (K : PySem.W.Frag) (c : Cs) : XK → TE := fun E' => tCall (spXW K c.cL c.cK c.cT c.cM) [] E' (tCons (tVar 2) (tCons (tVar 3) (tCons (tVar 6) (tCons (tC .non) tNil))))
theorem l50 (F : Fns P w K mg base c) : LmP (lawX P w K mg base f cdv A outer s H E) 9 L_l50 (t_l50 K c) := by
  obtain ⟨g, fd, F1, m1, k1, b1⟩ := F.fe
  refine ⟨lmS_by (show lmSB nLaw (defScope sLaw) L_l50 = true by decide +kernel), bind0 rfl (fun _ _ _ _ _ _ => by rfl), fun A' outer' s' H' E' f' c' hr => ?_⟩
  exact pe_call F1 (hr.mono (by decide)) (by rfl) m1 k1 b1 .nil (passes_call (takes_of rfl rfl rfl rfl) fun _ _ _ _ h => h) (pa_cons (pv 2) (pa_cons (pv 3) (pa_cons (pv 6) (pa_cons pe_non pa_nil))))
abbrev L_l51 : Lw := lw (lamB 5 0 1) ["a"]
abbrev t_l51 (K : PySem.W.Frag) (c : Cs) : XK → TE := fun E' => tCall (spXWay K c.cL c.cK c.cT c.cM) [] E' (tCons (tVar 2) (tCons (tVar 3) (tCons (tOp rMulS (tVar 5) (tC (.int 9))) (tCons (tVar 6) tNil))))
theorem l51 (F : Fns P w K mg base c) : LmP (lawX P w K mg base f cdv A outer s H E) 9 L_l51 (t_l51 K c) := by
  obtain ⟨g, fd, F1, m1, k1, b1⟩ := F.wa
  refine ⟨lmS_by (show lmSB nLaw (defScope sLaw) L_l51 = true by decide +kernel), bind1 rfl (fun _ _ _ _ _ _ _ _ _ ho => .of_defaults rfl ho rfl rfl rfl), fun A' outer' s' H' E' f' c' hr => ?_⟩
  exact pe_call F1 (hr.mono (by decide)) (by rfl) m1 k1 b1 .nil (passes_call (takes_of rfl rfl rfl rfl) fun _ _ _ _ h => h) (pa_cons (pv 2) (pa_cons (pv 3) (pa_cons (pe_op op_mulS (pv 5) pe_int) (pa_cons (pv 6) pa_nil))))
abbrev L_l52 : Lw := lw (lamB 5 0 2) ["b"]
abbrev t_l52 (K : PySem.W.Frag) (c : Cs) : XK → TE := fun E' => tCall (spXLeads K c.cL c.cK c.cT) [] E' (tCons (tVar 2) (tCons (tVar 3) (tCons (tVar 6) (tCons (tC .non) (tCons (tC .non) tNil)))))
theorem l52 (F : Fns P w K mg base c) : LmP (lawX P w K mg base f cdv A outer s H E) 9 L_l52 (t_l52 K c) := by
  obtain ⟨g, fd, F1, m1, k1, b1⟩ := F.le
  refine ⟨lmS_by (show lmSB nLaw (defScope sLaw) L_l52 = true by decide +kernel), bind1 rfl (fun _ _ _ _ _ _ _ _ _ ho => .of_defaults rfl ho rfl rfl rfl), fun A' outer' s' H' E' f' c' hr => ?_⟩
  exact pe_call F1 (hr.mono (by decide)) (by rfl) m1 k1 b1 .nil (passes_call (takes_of rfl rfl rfl rfl) fun _ _ _ _ h => h) (pa_cons (pv 2) (pa_cons (pv 3) (pa_cons (pv 6) (pa_cons pe_non (pa_cons pe_non pa_nil)))))
abbrev L_l53 : Lw := lw (lamB 5 1 0) []
abbrev t_l53 (K : PySem.W.Frag) (c : Cs) : XK → TE := fun E' => tCall (spXLeads K c.cL c.cK c.cT) [] E' (tCons (tVar 2) (tCons (tVar 3) (tCons (tVar 5) (tCons (tC .non) (tCons (tVar 6) tNil)))))
theorem l53 (F : Fns P w K mg base c) : LmP (lawX P w K mg base f cdv A outer s H E) 9 L_l53 (t_l53 K c) := by
  obtain ⟨g, fd, F1, m1, k1, b1⟩ := F.le
  refine ⟨lmS_by (show lmSB nLaw (defScope sLaw) L_l53 = true by decide +kernel), bind0 rfl (fun _ _ _ _ _ _ => by rfl), fun A' outer' s' H' E' f' c' hr => ?_⟩
  exact pe_call F1 (hr.mono (by decide)) (by rfl) m1 k1 b1 .nil (passes_call (takes_of rfl rfl rfl rfl) fun _ _ _ _ h => h) (pa_cons (pv 2) (pa_cons (pv 3) (pa_cons (pv 5) (pa_cons pe_non (pa_cons (pv 6) pa_nil)))))
abbrev L_l54 : Lw := lw (lamB 5 1 1) ["a"]
abbrev t_l54 (K : PySem.W.Frag) (c : Cs) : XK → TE := fun E' => tCall (spXOrigin K c.cR c.cK c.cT c.cM) [] E' (tCons (tVar 4) (tCons (tVar 3) (tCons (tVar 6) tNil)))
theorem l54 (F : Fns P w K mg base c) : LmP (lawX P w K mg base f cdv A outer s H E) 9 L_l54 (t_l54 K c) := by
  obtain ⟨g, fd, F1, m1, k1, b1⟩ := F.or
  refine ⟨lmS_by (show lmSB nLaw (defScope sLaw) L_l54 = true by decide +kernel), bind1 rfl (fun _ _ _ _ _ _ _ _ _ ho => .of_defaults rfl ho rfl rfl rfl), fun A' outer' s' H' E' f' c' hr => ?_⟩
  exact pe_call F1 (hr.mono (by decide)) (by rfl) m1 k1 b1 .nil (passes_call (takes_of rfl rfl rfl rfl) fun _ _ _ _ h => h) (pa_cons (pv 4) (pa_cons (pv 3) (pa_cons (pv 6) pa_nil)))
abbrev L_l55 : Lw := lw (lamB 5 1 2) ["b"]
abbrev t_l55 (K : PySem.W.Frag) (c : Cs) : XK → TE := fun E' => tCall (spXW K c.cL c.cK c.cT c.cM) [] E' (tCons (tVar 2) (tCons (tVar 3) (tCons (tC (.str "")) (tCons (tVar 6) tNil))))
theorem l55 (F : Fns P w K mg base c) : LmP (lawX P w K mg base f cdv A outer s H E) 9 L_l55 (t_l55 K c) := by
  obtain ⟨g, fd, F1, m1, k1, b1⟩ := F.fe
  refine ⟨lmS_by (show lmSB nLaw (defScope sLaw) L_l55 = true by decide +kernel), bind1 rfl (fun _ _ _ _ _ _ _ _ _ ho => .of_defaults rfl ho rfl rfl rfl), fun A' outer' s' H' E' f' c' hr => ?_⟩
  exact pe_call F1 (hr.mono (by decide)) (by rfl) m1 k1 b1 .nil (passes_call (takes_of rfl rfl rfl rfl) fun _ _ _ _ h => h) (pa_cons (pv 2) (pa_cons (pv 3) (pa_cons pe_str (pa_cons (pv 6) pa_nil))))
abbrev L_l80 : Lw := lw (lam8 0) []
abbrev t_l80 (K : PySem.W.Frag) (c : Cs) : XK → TE := fun E' => tCall (spXW K c.cL c.cK c.cT c.cM) [] E' (tCons (tVar 2) (tCons (tTup tNil) (tCons (tVar 9) (tCons (tC (.str "")) tNil))))
theorem l80 (F : Fns P w K mg base c) : LmP (lawX P w K mg base f cdv A outer s H E) 9 L_l80 (t_l80 K c) := by
  obtain ⟨g, fd, F1, m1, k1, b1⟩ := F.fe
  refine ⟨lmS_by (show lmSB nLaw (defScope sLaw) L_l80 = true by decide +kernel), bind0 rfl (fun _ _ _ _ _ _ => by rfl), fun A' outer' s' H' E' f' c' hr => ?_⟩
  exact pe_call F1 (hr.mono (by decide)) (by rfl) m1 k1 b1 .nil (passes_call (takes_of rfl rfl rfl rfl) fun _ _ _ _ h => h) (pa_cons (pv 2) (pa_cons (pe_tup pa_nil) (pa_cons (pv 9) (pa_cons pe_str pa_nil))))
abbrev L_l81 : Lw := lw (lam8 1) ["a"]
abbrev t_l81 (K : PySem.W.Frag) (c : Cs) : XK → TE := fun E' => tCall (spXW K c.cL c.cK c.cT c.cM) [] E' (tCons (tVar 2) (tCons (tTup tNil) (tCons (tC (.str "")) (tCons (tVar 9) tNil))))
theorem l81 (F : Fns P w K mg base c) : LmP (lawX P w K mg base f cdv A outer s H E) 9 L_l81 (t_l81 K c) := by
  obtain ⟨g, fd, F1, m1, k1, b1⟩ := F.fe
  refine ⟨lmS_by (show lmSB nLaw (defScope sLaw) L_l81 = true by decide +kernel), bind1 rfl (fun _ _ _ _ _ _ _ _ _ ho => .of_defaults rfl ho rfl rfl rfl), fun A' outer' s' H' E' f' c' hr => ?_⟩
  exact pe_call F1 (hr.mono (by decide)) (by rfl) m1 k1 b1 .nil (passes_call (takes_of rfl rfl rfl rfl) fun _ _ _ _ h => h) (pa_cons (pv 2) (pa_cons (pe_tup pa_nil) (pa_cons pe_str (pa_cons (pv 9) pa_nil))))
abbrev L_l90 : Lw := lw (lam9 0) []
abbrev t_l90 (K : PySem.W.Frag) (c : Cs) : XK → TE := fun E' => tCall (spXOrigin K c.cR c.cK c.cT c.cM) [] E' (tCons (tVar 4) (tCons (tVar 3) (tCons (tVar 9) tNil)))
theorem l90 (F : Fns P w K mg base c) : LmP (lawX P w K mg base f cdv A outer s H E) 9 L_l90 (t_l90 K c) := by
  obtain ⟨g, fd, F1, m1, k1, b1⟩ := F.or
  refine ⟨lmS_by (show lmSB nLaw (defScope sLaw) L_l90 = true by decide +kernel), bind0 rfl (fun _ _ _ _ _ _ => by rfl), fun A' outer' s' H' E' f' c' hr => ?_⟩
  exact pe_call F1 (hr.mono (by decide)) (by rfl) m1 k1 b1 .nil (passes_call (takes_of rfl rfl rfl rfl) fun _ _ _ _ h => h) (pa_cons (pv 4) (pa_cons (pv 3) (pa_cons (pv 9) pa_nil)))
abbrev L_l91 : Lw := lw (lam9 1) ["a"]
abbrev t_l91 (K : PySem.W.Frag) (c : Cs) : XK → TE := fun E' => tCall (spXWay K c.cL c.cK c.cT c.cM) [] E' (tCons (tVar 2) (tCons (tVar 3) (tCons (tVar 9) (tCons (tVar 9) tNil))))
theorem l91 (F : Fns P w K mg base c) : LmP (lawX P w K mg base f cdv A outer s H E) 9 L_l91 (t_l91 K c) := by
  obtain ⟨g, fd, F1, m1, k1, b1⟩ := F.wa
  refine ⟨lmS_by (show lmSB nLaw (defScope sLaw) L_l91 = true by decide +kernel), bind1 rfl (fun _ _ _ _ _ _ _ _ _ ho => .of_defaults rfl ho rfl rfl rfl), fun A' outer' s' H' E' f' c' hr => ?_⟩
  exact pe_call F1 (hr.mono (by decide)) (by rfl) m1 k1 b1 .nil (passes_call (takes_of rfl rfl rfl rfl) fun _ _ _ _ h => h) (pa_cons (pv 2) (pa_cons (pv 3) (pa_cons (pv 9) (pa_cons (pv 9) pa_nil))))
abbrev L_lR : Lw := lw lamR []
abbrev t_lR (K : PySem.W.Frag) (c : Cs) : XK → TE := fun E' => tCall (spXOrigin K c.cR c.cK c.cT c.cM) [] E' (tCons (tVar 12) (tCons (tC .non) (tCons (tC .non) tNil)))
theorem lR (F : Fns P w K mg base c) : LmP ((lawX P w K mg base f cdv A outer s H E).blk s1 H1 (exS (exL (stT (st 11)))) (compEnvC (exS (exL (stT (st 11)))) cl C1 (lawX P w K mg base f cdv A outer s H E).env) fp) 9 L_lR (t_lR K c) := by
  obtain ⟨g, fd, F1, m1, k1, b1⟩ := F.or
  refine ⟨lmS_by (show lmSB nLaw (exS (exL (stT (st 11)))) L_lR = true by decide +kernel), bind0 rfl (fun _ _ _ _ _ _ => by rfl), fun A' outer' s' H' E' f' c' hr => ?_⟩
  exact pe_call F1 (hr.mono (by decide)) (by rfl) m1 k1 b1 .nil (passes_call (takes_of rfl rfl rfl rfl) fun _ _ _ _ h => h) (pa_cons (pv 12) (pa_cons pe_non (pa_cons pe_non pa_nil)))
end
end K14

set_option maxHeartbeats 4000000
set_option autoImplicit false
/-! the law's loops over wrong values: what a turn does. -/
namespace K14
open PySem PySem.Spec PyProof.Rows L2 AsSort AsKit AsToo AsTry AsAct AsLcC AsLoose
open Evl (Ex Ev EvT EvA)
open LamX (ExtN TabB lamCx)
open NdefX (TabsN TabN NTab)
section
variable {K : PySem.W.Frag} {σ : L2.St} {H : Hp}
theorem d_non : EvD K (tC .non) σ H .none := fun H1 _ _ q => q _ H1 (Ex.refl H1) .non
theorem s_forE {D : Ends} {te : TE} {tu : TS} {g : TG} {ds : List PyData} (h : EvD K te σ H (.list ds)) (k : ∀ H1, Ex H H1 → ∃ Pv : Nat → L2.St → Hp → Prop, Pv 0 σ H1 ∧ (∀ j σ' H', Pv j σ' H' → ExtN H1 H') ∧
    (∀ j d x σ' H', ds[j]? = some d → Dp K H' x d → Pv j σ' H' → g x σ' H' fun σ2 H2 => tu { D with nx := Pv (j + 1), ct := Pv (j + 1), bk := D.nx } σ2 H2) ∧ ∀ σ' H', Pv ds.length σ' H' → D.nx σ' H') : tFor (iList K te) g tu D σ H := by
  refine h H (Ex.refl H) _ fun v H1 e hv => ?_
  cases hv with
  | lst hq hl =>
    obtain ⟨Pv, p0, px, ps, pe⟩ := k H1 e
    refine ⟨_, rfl, ⟨_, hq⟩, for_list Pv p0 (fun j σ' H' _ p => seq_extN (px j σ' H' p) hq) (fun j x σ' H' hj p => ?_) fun σ' H' p => pe σ' H' (by rw [← dpAll_len hl]; exact p)⟩
    have hj2 : j < ds.length := by rw [← dpAll_len hl]; exact (List.getElem?_eq_some_iff.mp hj).1
    have hd2 : ds[j]? = some ds[j] := List.getElem?_eq_getElem hj2
    exact ps j _ x σ' H' hd2 (dp_extN (px j σ' H' p) (dpAll_get hl hj hd2)) p
variable {c : Cs} {C : Addr} {wd : Str} {ta : TA} {Q : VK} {l k t o r : PyData} {Ts : List NTab}
theorem askFe (b : WBad c.cL c.cK c.cT l k t o C) (nm : (C, wd) ∈ prs c) (h : EvDs K ta σ H [l, k, t, o]) (q : ∀ H', Ex H H' → Q (.str wd) H') : TTe c (fun E H' Q' => tCall (spXW K c.cL c.cK c.cT c.cM) [] E ta σ H' Q') H Q :=
  AsLcN.e_callC h (Ex.refl H) fun vs H1 e hv => ⟨l, k, t, o, hv, .inl ⟨C, b, fun H' e' => .inl ⟨_, nm, rfl, q H' (e.trans e')⟩⟩⟩
theorem askWa (b : WBad c.cL c.cK c.cT l k t o C) (nm : (C, wd) ∈ prs c) (h : EvDs K ta σ H [l, k, t, o]) (q : ∀ H', Ex H H' → Q (.str wd) H') : TTe c (fun E H' Q' => tCall (spXWay K c.cL c.cK c.cT c.cM) [] E ta σ H' Q') H Q :=
  AsLcN.e_callC h (Ex.refl H) fun vs H1 e hv => ⟨l, k, t, o, hv, .inl ⟨C, b, fun H' e' => .inl ⟨_, nm, rfl, q H' (e.trans e')⟩⟩⟩
theorem askLe (b : WBad c.cL c.cK c.cT l k t o C) (nm : (C, wd) ∈ prs c) (h : EvDs K ta σ H [l, k, t, r, o]) (q : ∀ H', Ex H H' → Q (.str wd) H') : TTe c (fun E H' Q' => tCall (spXLeads K c.cL c.cK c.cT) [] E ta σ H' Q') H Q :=
  AsLcN.e_callC h (Ex.refl H) fun vs H1 e hv => ⟨l, k, t, r, o, hv, C, b, fun H' e' => .inl ⟨_, nm, rfl, q H' (e.trans e')⟩⟩
theorem askOr (b : OBad c.cR c.cK c.cT r k t C) (nm : (C, wd) ∈ prs c) (h : EvDs K ta σ H [r, k, t]) (q : ∀ H', Ex H H' → Q (.str wd) H') : TTe c (fun E H' Q' => tCall (spXOrigin K c.cR c.cK c.cT c.cM) [] E ta σ H' Q') H Q :=
  AsLcN.e_callC h (Ex.refl H) fun vs H1 e hv => ⟨r, k, t, hv, .inl ⟨C, b, fun H' e' => .inl ⟨_, nm, rfl, q H' (e.trans e')⟩⟩⟩
/-- too long: what comes of it -/
abbrev dueL : PyData := .tuple [.str "TooLong", .int 8]
theorem many_q (q : ∀ v H', Ex H H' → Dp K H' v dueL → Q v H') : ∀ H' m, Ex H H' → H' m = none → Eer c Q (.ref c.cM) (some m) (upd H' m (.xd [("most", .int 8)])) := fun H' m e nm => .inr ⟨rfl, m, 8, rfl, upd_same, fun p np => q _ _ ((e.trans (Ex.new nm)).trans (Ex.new np)) (.tup (Evl.st_of upd_same) (.cons (.str _) (.cons (.int _) .nil)))⟩
theorem askFeL {y z u : Str} {ps : List (Str × Str)} (ok : Okay (.str y) (ksD ps) (.str z)) (ul : u.length ≤ 40) (ui : allIn y u = true) (hl : 8 < z.length ∨ 8 < u.length) (h : EvDs K ta σ H [.str y, ksD ps, .str z, .str u]) (q : ∀ v H', Ex H H' → Dp K H' v dueL → Q v H') : TTe c (fun E H' Q' => tCall (spXW K c.cL c.cK c.cT c.cM) [] E ta σ H' Q') H Q :=
  AsLcN.e_callC h (Ex.refl H) fun vs H1 e hv => ⟨_, _, _, _, hv, .inr ⟨y, z, u, ps, rfl, rfl, rfl, rfl, ok, ul, ui, .inl ⟨hl, many_q fun v H' e' hd => q v H' (e.trans e') hd⟩⟩⟩
theorem askWaL {y z u : Str} {ps : List (Str × Str)} (ok : Okay (.str y) (ksD ps) (.str z)) (ul : u.length ≤ 40) (ui : allIn y u = true) (hl : 8 < z.length ∨ 8 < u.length) (h : EvDs K ta σ H [.str y, ksD ps, .str z, .str u]) (q : ∀ v H', Ex H H' → Dp K H' v dueL → Q v H') : TTe c (fun E H' Q' => tCall (spXWay K c.cL c.cK c.cT c.cM) [] E ta σ H' Q') H Q :=
  AsLcN.e_callC h (Ex.refl H) fun vs H1 e hv => ⟨_, _, _, _, hv, .inr ⟨y, z, u, ps, rfl, rfl, rfl, rfl, ok, ul, ui, hl, many_q fun v H' e' hd => q v H' (e.trans e') hd⟩⟩
theorem askOrL {M : Mach} {z : Str} (ok : M.Ok) (tk : TxL k) (lk : lotD M.y k = true) (wt : withinD M.y 40 (.str z) = true) (zl : z.length ≤ 40) (hl : 8 < z.length) (h : EvDs K ta σ H [M.d, k, .str z]) (q : ∀ v H', Ex H H' → Dp K H' v dueL → Q v H') : TTe c (fun E H' Q' => tCall (spXOrigin K c.cR c.cK c.cT c.cM) [] E ta σ H' Q') H Q :=
  AsLcN.e_callC h (Ex.refl H) fun vs H1 e hv => ⟨_, _, _, hv, .inr ⟨M, z, rfl, ok, tk, lk, rfl, wt, zl, hl, many_q fun v H' e' hd => q v H' (e.trans e') hd⟩⟩
/-- no way: nothing is told -/
theorem askFe0 {y z u : Str} (ok : Okay (.str y) (ksD []) (.str z)) (ui : allIn y u = true) (zl : z.length ≤ 8) (ul : u.length ≤ 8) (so : PyData.strOk y = true) (yl : y.length ≤ 1000) (nd : (sg y).Nodup) (hc : (z = "" ∧ 0 < u.length) ∨ (u = "" ∧ 0 < z.length)) (h : EvDs K ta σ H [.str y, ksD [], .str z, .str u]) (q : ∀ v H', Ex H H' → Dp K H' v (.str "") → Q v H') : TTe c (fun E H' Q' => tCall (spXW K c.cL c.cK c.cT c.cM) [] E ta σ H' Q') H Q :=
  AsLcN.e_callC h (Ex.refl H) fun vs H1 e hv => ⟨_, _, _, _, hv, .inr ⟨y, z, u, [], rfl, rfl, rfl, rfl, ok, by omega, ui, .inr ⟨zl, ul, rfl, so, yl, nd, hc, fun H' e' => q _ H' (e.trans e') (.str _)⟩⟩⟩
end
section
variable {X : Cx} {c : Cs} {wd : Str} {Ts : List NTab} {σ : L2.St} {H : Hp} {D : Ends}
/-- the lambda, asked at these slots, tells the word -/
def PL (X : Cx) (c : Cs) (wd : Str) (σ : L2.St) (H : Hp) (L : Lw) : Prop := ∃ t, LmP X 9 L t ∧ ∀ (G : Hp) (Q : VK), ExtN H G → (∀ H', Ex G H' → Q (.str wd) H') → TTe c (fun E H' Q' => t E σ H' Q') G Q
theorem PL.ext {L : Lw} {H1 : Hp} (h : PL X c wd σ H L) (e : ExtN H H1) : PL X c wd σ H1 L := let ⟨t, a, b⟩ := h; ⟨t, a, fun G Q e1 q => b G Q (e.trans e1) q⟩
def mkT (X : Cx) (Ts : List NTab) : List Lw → TA
  | [] => tNil
  | L :: Ls => tCons (tLm X Ts L) (mkT X Ts Ls)
/-- made, one after another -/
def Made (X : Cx) (H : Hp) : List Addr → List Lw → Prop
  | [], [] => True
  | f :: fs, L :: Ls => LmAt X f L H ∧ Made X H fs Ls
  | _, _ => False
theorem Made.ext {H G : Hp} (e : ExtN H G) : ∀ {fs : List Addr} {Ls : List Lw}, Made X H fs Ls → Made X G fs Ls
  | [], [], _ => trivial
  | _ :: _, _ :: _, h => ⟨h.1.ext e, Made.ext e h.2⟩
  | [], _ :: _, h => h.elim
  | _ :: _, [], h => h.elim
theorem Made.len {H : Hp} : ∀ {fs : List Addr} {Ls : List Lw}, Made X H fs Ls → fs.length = Ls.length
  | [], [], _ => rfl
  | _ :: _, _ :: _, h => congrArg (· + 1) (Made.len h.2)
  | [], _ :: _, h => h.elim
  | _ :: _, [], h => h.elim
theorem Made.app {H : Hp} {gs : List Addr} {Ms : List Lw} (h2 : Made X H gs Ms) : ∀ {fs : List Addr} {Ls : List Lw}, Made X H fs Ls → Made X H (fs ++ gs) (Ls ++ Ms)
  | [], [], _ => h2
  | _ :: _, _ :: _, h => ⟨h.1, Made.app h2 h.2⟩
  | [], _ :: _, h => h.elim
  | _ :: _, [], h => h.elim
theorem Made.at_ {H : Hp} : ∀ {fs : List Addr} {Ls : List Lw}, Made X H fs Ls → ∀ (n : Nat) (f : Addr), fs[n]? = some f → ∃ L, L ∈ Ls ∧ LmAt X f L H
  | [], [], _, n, f, e => by simp at e
  | f0 :: fs, L :: Ls, h, 0, f, e => by cases e; exact ⟨L, List.mem_cons_self .., h.1⟩
  | f0 :: fs, L :: Ls, h, n + 1, f, e => let ⟨M, a, b⟩ := Made.at_ h.2 n f e; ⟨M, List.mem_cons_of_mem _ a, b⟩
  | [], _ :: _, h, _, _, _ => h.elim
  | _ :: _, [], h, _, _, _ => h.elim
theorem mk_go : ∀ (Ls : List Lw) (H : Hp) (Q : List V → Hp → Prop), TabsN Ts H → (∀ fs G, ExtN H G → TabsN Ts G → Made X G fs Ls → Q (fs.map V.ref) G) → mkT X Ts Ls σ H Q
  | [], H, Q, hT, q => q [] H (ExtN.refl H) hT trivial
  | L :: Ls, H, Q, hT, q => ⟨hT, fun f G e t n m => mk_go Ls G _ t fun fs G2 e2 t2 m2 => q (f :: fs) G2 (e.trans e2) t2 ⟨m.ext e2, m2⟩⟩
/-- a list of lambdas -/
theorem lst_go {Ls : List Lw} {Q : VK} (hT : TabsN Ts H) (hl : Ls.length ≤ 1000) (q : ∀ p fs G, ExtN H G → TabsN Ts G → Made X G fs Ls → G p = some (.lst (fs.map V.ref)) → Q (.ref p) G) : tLst (mkT X Ts Ls) σ H Q :=
  mk_go Ls H _ hT fun fs G e t m => ⟨Evl.sz_of (by rw [List.length_map, m.len]; omega), fun p np => by
    have eP : ExtN G (upd G p (.lst (fs.map V.ref))) := ExtN.of fun b o z => (upd_ne fun y => by rw [y, np] at z; cases z).trans z
    exact q p fs _ (e.trans eP) (t.ext fun b o z => (upd_ne fun y => by rw [y, np] at z; cases z).trans z) (m.ext eP) upd_same⟩
/-- all lambdas tell the word -/
theorem none_if {p : Addr} {fs : List Addr} {Ls : List Lw} {i : Nat} (h7 : σ[i]? = some (some (.ref p))) (hp : H p = some (.lst (fs.map V.ref))) (m : Made X H fs Ls) (a : ∀ L ∈ Ls, PL X c wd σ H L) (q : ∀ G, Ex H G → D.nx σ G) :
    tIfS (tTest (tOp (rNeD X.K) (tNone X.K i (rAsk X 9 (TTe c) wd)) (tLst tNil))) (tRet (tC (.bl false))) tNext D σ H := by
  refine ⟨p, fs.map V.ref, fun D n G => Ex H G ∧ G D = some (.lst []), h7, Evl.sq_of hp, fun D nD => ⟨Ex.new nD, upd_same⟩, fun D n G ⟨a, _⟩ => Evl.ex_l a (Evl.sq_of hp), fun D n x G hx ⟨e, cD⟩ => ?_, fun D G ⟨e, cD⟩ => ?_⟩
  · rw [List.getElem?_map] at hx
    cases hf : fs[n]? with
    | none => rw [hf] at hx; cases hx
    | some f =>
      rw [hf] at hx
      have hx := Option.some.inj hx
      subst hx
      obtain ⟨L, hL, hm⟩ := m.at_ n f hf
      obtain ⟨t, P, ask⟩ := a L hL
      exact ⟨f, L, t, rfl, hm.ext (ExtN.of e), P, ask G _ (ExtN.of e) fun H' e' => askQ_of ⟨e.trans e', e' _ _ cD⟩⟩
  · refine ⟨Evl.sz_of (Nat.zero_le _), fun r nr => ⟨.list [], .list [], .lst (Evl.sq_of ((upd_ne fun z => by rw [z, nr] at cD; cases cD).trans cD)) .nil, .lst (Evl.sq_of upd_same) .nil, rfl, rfl, false, by rfl, ?_⟩⟩
    exact q _ (e.trans (Ex.new nr))
theorem none_ifE {p : Addr} {fs : List Addr} {Ls Ms : List Lw} {te : TE} (hT : TabsN Ts H) (ev : ∀ Q : VK, (∀ p fs G, ExtN H G → TabsN Ts G → Made X G fs Ls → G p = some (.lst (fs.map V.ref)) → Q (.ref p) G) → te σ H Q) (a : ∀ L ∈ Ls, PL X c wd σ H L) (q : ∀ G, ExtN H G → TabsN Ts G → D.nx σ G) :
    tIfS (tTest (tOp (rNeD X.K) (tNoneE X.K te (rAsk X 9 (TTe c) wd)) (tLst tNil))) (tRet (tC (.bl false))) tNext D σ H := by
  refine ev _ fun p fs M eM tM m hp => ?_
  refine ⟨p, rfl, ⟨_, Evl.sq_of hp⟩, p, fs.map V.ref, fun D n G => Ex M G ∧ G D = some (.lst []), rfl, Evl.sq_of hp, fun D nD => ⟨Ex.new nD, upd_same⟩, fun D n G ⟨a, _⟩ => Evl.ex_l a (Evl.sq_of hp), fun D n x G hx ⟨e, cD⟩ => ?_, fun D G ⟨e, cD⟩ => ?_⟩
  · rw [List.getElem?_map] at hx
    cases hf : fs[n]? with
    | none => rw [hf] at hx; cases hx
    | some f =>
      rw [hf] at hx
      have hx := Option.some.inj hx
      subst hx
      obtain ⟨L, hL, hm⟩ := m.at_ n f hf
      obtain ⟨t, P, ask⟩ := a L hL
      exact ⟨f, L, t, rfl, hm.ext (ExtN.of e), P, ask G _ (eM.trans (ExtN.of e)) fun H' e' => askQ_of ⟨e.trans e', e' _ _ cD⟩⟩
  · refine ⟨Evl.sz_of (Nat.zero_le _), fun r nr => ⟨.list [], .list [], .lst (Evl.sq_of ((upd_ne fun z => by rw [z, nr] at cD; cases cD).trans cD)) .nil, .lst (Evl.sq_of upd_same) .nil, rfl, rfl, false, by rfl, ?_⟩⟩
    exact q _ (eM.trans (ExtN.of (e.trans (Ex.new nr)))) (tM.ext (e.trans (Ex.new nr)))
/-- calls + [..] -/
theorem cat_go {p : Addr} {fs : List Addr} {Ls Ms : List Lw} {Q : VK} {i : Nat} (h7 : σ[i]? = some (some (.ref p))) (hp : H p = some (.lst (fs.map V.ref))) (m : Made X H fs Ls) (hT : TabsN Ts H) (hl : Ls.length + Ms.length ≤ 1000)
    (q : ∀ p fs G, ExtN H G → TabsN Ts G → Made X G fs (Ls ++ Ms) → G p = some (.lst (fs.map V.ref)) → Q (.ref p) G) : tOp rCat (tVar i) (tLst (mkT X Ts Ms)) σ H Q := by
  refine ⟨_, h7, lst_go hT (by omega) fun p2 gs G e t m2 hp2 => ⟨p, p2, _, _, rfl, rfl, e _ _ hp (fun _ z => nomatch z), hp2, Evl.sz_of (by rw [List.length_map, List.length_map, m.len, m2.len]; omega), fun r nr => ?_⟩⟩
  have eP : Ex G (upd G r (.lst (fs.map V.ref ++ gs.map V.ref))) := Ex.new nr
  exact q r (fs ++ gs) _ (e.trans (ExtN.of eP)) (t.ext eP) ((Made.app m2 (m.ext e)).ext (ExtN.of eP)) (by rw [upd_same, List.map_append])
theorem q_te {te : TE} {i : Nat} {tz : TS} {R : V → Hp → Prop} (h : ∀ Q : VK, (∀ x G, R x G → Q x G) → te σ H Q) (k : ∀ x G, R x G → tz D (σ.set i (some x)) G) : tSeq (tAsg te (gName i)) tz D σ H := h _ k
/-- a turn: calls made by two statements, each asked, all tell the word -/
theorem turn2 {Ls Ms : List Lw} (hT : TabsN Ts H) (hl : 7 < σ.length) (hs : Ls.length + Ms.length ≤ 1000) (a : ∀ v, ∀ L ∈ Ls ++ Ms, PL X c wd (σ.set 7 (some v)) H L) (q : ∀ v G, ExtN H G → TabsN Ts G → D.nx (σ.set 7 (some v)) G) :
    tSeq (tAsg (tLst (mkT X Ts Ls)) (gName 7)) (tSeq (tAsg (tOp rCat (tVar 7) (tLst (mkT X Ts Ms))) (gName 7)) (tIfS (tTest (tOp (rNeD X.K) (tNone X.K 7 (rAsk X 9 (TTe c) wd)) (tLst tNil))) (tRet (tC (.bl false))) tNext)) D σ H := by
  refine q_te (R := fun x G => ∃ p fs, x = V.ref p ∧ ExtN H G ∧ TabsN Ts G ∧ Made X G fs Ls ∧ G p = some (.lst (fs.map V.ref))) (fun Q k => lst_go (Ls := Ls) hT (by omega) fun p fs G e t m hp => k _ _ ⟨p, fs, rfl, e, t, m, hp⟩) fun x G hR => ?_
  obtain ⟨p, fs, rfl, e, t, m, hp⟩ := hR
  refine q_te (R := fun x G2 => ∃ p fs, x = V.ref p ∧ ExtN G G2 ∧ TabsN Ts G2 ∧ Made X G2 fs (Ls ++ Ms) ∧ G2 p = some (.lst (fs.map V.ref))) (fun Q k => cat_go (by rw [List.getElem?_set_self hl]) hp m t hs fun p fs G2 e2 t2 m2 hp2 => k _ _ ⟨p, fs, rfl, e2, t2, m2, hp2⟩) fun x G2 hR2 => ?_
  obtain ⟨p2, gs, rfl, e2, t2, m2, hp2⟩ := hR2
  rw [List.set_set]
  exact none_if (by rw [List.getElem?_set_self hl]) hp2 m2 (fun L hL => (a _ L hL).ext (e.trans e2)) fun G3 e3 => q _ _ ((e.trans e2).trans (ExtN.of e3)) (t2.ext e3)
theorem turn1 {Ls : List Lw} (hT : TabsN Ts H) (hl : 7 < σ.length) (hs : Ls.length ≤ 1000) (a : ∀ v, ∀ L ∈ Ls, PL X c wd (σ.set 7 (some v)) H L) (q : ∀ v G, ExtN H G → TabsN Ts G → D.nx (σ.set 7 (some v)) G) :
    tSeq (tAsg (tLst (mkT X Ts Ls)) (gName 7)) (tIfS (tTest (tOp (rNeD X.K) (tNone X.K 7 (rAsk X 9 (TTe c) wd)) (tLst tNil))) (tRet (tC (.bl false))) tNext) D σ H := by
  refine q_te (R := fun x G => ∃ p fs, x = V.ref p ∧ ExtN H G ∧ TabsN Ts G ∧ Made X G fs Ls ∧ G p = some (.lst (fs.map V.ref))) (fun Q k => lst_go (Ls := Ls) hT (by omega) fun p fs G e t m hp => k _ _ ⟨p, fs, rfl, e, t, m, hp⟩) fun x G hR => ?_
  obtain ⟨p, fs, rfl, e, t, m, hp⟩ := hR
  exact none_if (by rw [List.getElem?_set_self hl]) hp m (fun L hL => (a _ L hL).ext e) fun G3 e3 => q _ _ (e.trans (ExtN.of e3)) (t.ext e3)
/-- the lambda, asked at these slots, gives these data -/
def PLd (X : Cx) (c : Cs) (d : PyData) (σ : L2.St) (H : Hp) (L : Lw) : Prop := ∃ t, LmP X 9 L t ∧ ∀ (G : Hp) (Q : VK), ExtN H G → (∀ v H', Ex G H' → Dp X.K H' v d → Q v H') → TTe c (fun E H' Q' => t E σ H' Q') G Q
/-- two lambdas asked on the spot; what is due stands in a slot -/
theorem pair_ifD {L0 L1 : Lw} {d : PyData} {i : Nat} {vd : V} (hT : TabsN Ts H) (hi : σ[i]? = some (some vd)) (hd : Dp X.K H vd d) (him : imm d = true) (h0 : PLd X c d σ H L0) (h1 : PLd X c d σ H L1) (hsh : SeqAt.shaped (.list [d, d]) = true) (q : ∀ G, ExtN H G → TabsN Ts G → D.nx σ G) :
    tIfS (tTest (tOp (rNeD X.K) (tLst (tCons (tAsk X 9 (TTe c) (tLm X Ts L0)) (tCons (tAsk X 9 (TTe c) (tLm X Ts L1)) tNil))) (tOp rRep (tLst (tCons (tVar i) tNil)) (tC (.int 2))))) (tRet (tC (.bl false))) tNext D σ H := by
  obtain ⟨u0, P0, a0⟩ := h0
  obtain ⟨u1, P1, a1⟩ := h1
  refine ⟨hT, fun f0 G0 e0 t0 n0 m0 => ⟨f0, _, _, rfl, rfl, m0, P0, a0 G0 _ e0 fun w0 G1 x1 hw0 => ?_⟩⟩
  refine ⟨t0.ext x1, fun f1 G2 e2 t2 n2 m2 => ⟨f1, _, _, rfl, rfl, m2, P1, a1 G2 _ ((e0.trans (ExtN.of x1)).trans e2) fun w1 G3 x3 hw1 => ?_⟩⟩
  refine ⟨Evl.sz_of (by show 2 ≤ 100000; decide), fun l1 nl1 => ⟨vd, hi, Evl.sz_of (by show 1 ≤ 100000; decide), fun l2 nl2 => ?_⟩⟩
  obtain ⟨U, eU⟩ : ∃ U, U = upd (upd G3 l1 (.lst [w0, w1])) l2 (.lst [vd]) := ⟨_, rfl⟩
  have xU : Ex G3 U := by rw [eU]; exact (Ex.new nl1).trans (Ex.new nl2)
  have hl1 : U l1 = some (.lst [w0, w1]) := by rw [eU]; exact Ex.new nl2 _ _ upd_same
  have hl2 : U l2 = some (.lst [vd]) := by rw [eU, upd_same]
  rw [← eU]
  refine ⟨l2, 2, [vd], rfl, rfl, hl2, by decide, by decide, by show 1 * 2 ≤ sizeLine; decide, fun l3 nl3 => ?_⟩
  have xW : Ex U (upd U l3 (.lst (List.replicate (2 : Int).toNat [vd]).flatten)) := Ex.new nl3
  have dw0 := dp_ex (xU.trans xW) (dp_ex x3 (dp_extN e2 hw0))
  have dw1 := dp_ex (xU.trans xW) hw1
  have dvd := dp_ex (xU.trans xW) (dp_ex x3 (dp_extN e2 (dp_ex x1 (dp_extN e0 hd))))
  refine ⟨.list [d, d], .list [d, d], .lst (Evl.sq_of (xW _ _ hl1)) (.cons dw0 (.cons dw1 .nil)), .lst (Evl.sq_of upd_same) (.cons dvd (.cons dvd .nil)), hsh, hsh, false, by rw [SeqAt.eqv_refl _ (SeqAt.canLay_of_shaped hsh)]; rfl, ?_⟩
  exact q _ ((((e0.trans (ExtN.of x1)).trans e2).trans (ExtN.of (x3.trans xU))).trans (ExtN.of xW)) (((t2.ext x3).ext xU).ext xW)
end
end K14

set_option maxHeartbeats 4000000
set_option autoImplicit false
/-! the wrong values, what is wrong with them; the law's first statements. -/
namespace K14
open PySem PySem.Spec PyProof.Rows L2 AsSort AsKit AsToo AsTry AsAct AsLcC AsLoose
open Evl (Ex Ev EvT EvA)
open LamX (ExtN TabB lamCx)
open NdefX (TabsN TabN NTab)
/-- the last sign of a text -/
def lastS (y : Str) : Str := match y.cps.toList.getLast? with
  | some c => ⟨#[c]⟩
  | none => ""
def txB : PyData → Bool
  | .str z => decide (z.length ≤ 40000)
  | _ => true
theorem txB_ok {d : PyData} (h : txB d = true) : Tx d := fun z e => by
  subst e
  exact of_decide_eq_true h
def txKB : PyData → Bool
  | .tuple ds => ds.all txB
  | _ => true
theorem txKB_ok {d : PyData} (h : txKB d = true) : TxK d := fun ds e x hx => by
  subst e
  exact txB_ok (List.all_eq_true.mp h x hx)
def txLB : PyData → Bool
  | .tuple ds => ds.all txKB
  | _ => true
theorem txLB_ok {d : PyData} (h : txLB d = true) : TxL d := fun ds e x hx => by
  subst e
  exact txKB_ok (List.all_eq_true.mp h x hx)
def bads3 : List PyData := [.none, (.str ""), (.str "ba"), (.str "aa"), (.str "abcde"), (.int 3), (.list [(.str "a")])]
def bads4 (l : Str) : List PyData := [.none, (.list []), (.tuple [(.tuple [(.str "a")])]), (.tuple [(.tuple [(.str l), (.str l)])]), (.tuple [(.tuple [(.str (Txt.mul l 4)), (.str "")])]), (.tuple [(.tuple [(.str "?"), (.str "")])]), (.tuple [(.tuple [(.str l), (.str "")]), (.tuple [(.str l), (.str "")])]), (.int 3)]
def bads5 (l : Str) : List PyData := [.none, (.int 3), (.list [(.str l)]), (.str (l ++ "?")), (.str (Txt.mul l 41))]
theorem bads3_ok : bads3.all (fun d => txB d && !isLettersD d) = true := by decide +kernel
theorem bads4_ok : seven.all (fun y => (bads4 (lastS y)).all fun d => txLB d && !lotD y d) = true := by decide +kernel
theorem bads5_ok : seven.all (fun y => (bads5 (lastS y)).all fun d => txB d && !withinD y 40 d) = true := by decide +kernel
theorem one_ok : seven.all (fun y => decide ((lastS y).length = 1) && allIn y (lastS y)) = true := by decide +kernel
theorem mul_ok : seven.all (fun y => [8, 9, 10].all fun n => decide ((Txt.mul (lastS y) n).length = n.toNat) && allIn y (Txt.mul (lastS y) n)) = true := by decide +kernel
theorem nd_ok : seven.all (fun y => decide (sg y).Nodup) = true := by decide +kernel
theorem so_ok : seven.all (fun y => PyData.strOk y) = true := by decide +kernel
theorem seven_ok : ∀ y ∈ seven, isLetS y = true ∧ PyData.strOk y = true ∧ 0 < y.length ∧ y.length ≤ 1000 := by decide +kernel
theorem last_at : ∀ y ∈ seven, ∃ c, atI y.cps.toList (-1) = some c ∧ lastS y = ⟨#[c]⟩ := by
  intro y hy
  have h : seven.all (fun y => match atI y.cps.toList (-1) with | some c => decide (lastS y = ⟨#[c]⟩) | none => false) = true := by decide +kernel
  have z := List.all_eq_true.mp h y hy
  cases q : atI y.cps.toList (-1) with
  | none => rw [q] at z; cases z
  | some c => rw [q] at z; exact ⟨c, rfl, of_decide_eq_true z⟩
theorem sqs_of {K : PySem.W.Frag} {H : Hp} {a p : Addr} {o : HO} {xs : List V} (h : SqL K H a xs) (np : H p = none) : SqS K (upd H p o) p a xs := fun H' b => by
  have go : ∀ u, H a = some u → H' a = some u := fun u e => b a u (fun z => by rw [z, np] at e; cases e) ((upd_ne fun z => by rw [z, np] at e; cases e).trans e)
  rcases h with (h | ⟨o, h⟩) | h
  · exact .inl (.inl (go _ h))
  · exact .inl (.inr ⟨o, go _ h⟩)
  · exact .inr h
theorem len1 (y : Str) (h : y ∈ seven) : (lastS y).length = 1 := by
  have := List.all_eq_true.mp one_ok y h
  rw [Bool.and_eq_true, decide_eq_true_eq] at this
  exact this.1
theorem muls (y : Str) (h : y ∈ seven) (n : Nat) (hn : n = 8 ∨ n = 9 ∨ n = 10) : (Txt.mul (lastS y) (n : Int)).length = n ∧ allIn y (Txt.mul (lastS y) (n : Int)) = true := by
  have := List.all_eq_true.mp mul_ok y h
  have z : ([8, 9, 10] : List Int).all (fun n => decide ((Txt.mul (lastS y) n).length = n.toNat) && allIn y (Txt.mul (lastS y) n)) = true := this
  have z2 := List.all_eq_true.mp z (n : Int) (by rcases hn with rfl | rfl | rfl <;> decide)
  rw [Bool.and_eq_true, decide_eq_true_eq, Int.toNat_natCast] at z2
  exact z2
theorem mulok {a : Str} {n : Nat} (h : a.length = 1) (h1 : 1 ≤ n) (h2 : n ≤ 50) : MulOk a (n : Int) := by
  have hz := sizeLine_eq
  refine ⟨by rw [Bool.or_eq_false_iff]; exact ⟨decide_eq_false (by omega), decide_eq_false (by omega)⟩, fun _ _ => ?_, fun _ _ => ?_⟩
  · rw [h]
    have : (1 : Int) ≤ (2 ^ 63 - 1) / (n : Int) := by
      rw [Int.le_ediv_iff_mul_le (by omega)]
      omega
    omega
  · rw [h, Int.toNat_natCast]
    have hh : 1 * n ≤ 50 := by omega
    exact decide_eq_false (by omega)
section
variable {P : Program} {w : World} {K : PySem.W.Frag} {mg : Str → Option Value} {base : Heap} {c : Cs} {f : Addr} {A : Around} {outer : List Env} {s : Shared} {H0 : Hp} {E : XK} {c0 PT g : Addr} {cdg : Value}
abbrev qL : Str := "law.<locals>.<lambda>"
def tabs1 (PT : Addr) : List NTab := [(PT, fun _ _ => qL)]
theorem hu1 {PT : Addr} : ∀ p ∈ tabs1 PT, p.1 = PT → p.2 = fun _ _ => qL := fun p hp e => by
  rw [List.mem_singleton.mp hp]
/-- all that the law's body is told -/
structure Wo (P : Program) (w : World) (K : PySem.W.Frag) (mg : Str → Option Value) (base : Heap) (c : Cs) (g : Addr) (cdg : Value) (c0 PT : Addr) : Prop where
  R : Ers K mg c
  hb : Bl mg
  hv : mg "ValueError" = none
  D : AskD K mg "_law_error" sError g cdg
  TB : TabB base mg c0 PT
  C0 : Cl P w K mg base 1 "_law_taken" (spTaken K) []
  C1 : Cl P w K mg base 3 "_law_letters" (spLetters K) []
  C2 : Cl P w K mg base 4 "_law_kinds" (spKinds K) []
  C3 : Cl P w K mg base 2 "_law_reader" (spReader K) []
  F : Fns P w K mg base c
def OkS (y : Str) (ks : List (Str × Str)) : Prop := ks.length ≤ 3 ∧ ks.Nodup ∧ ∀ k ∈ ks, Gd y k
/-- what was drawn -/
structure Drawn (y : Str) (ks : List (Str × Str)) (M : Mach) : Prop where
  my : y ∈ seven
  os : OkS y ks
  om : M.Ok
  oy : M.y = y
/-- the slots, the row, the kinds, the reader, the tables -/
def Stt (K : PySem.W.Frag) (Ts : List NTab) (S : Addr × List Int) (p : Addr) (y : Str) (ks : List (Str × Str)) (M : Mach) (vk vr : V) (σ : L2.St) (H : Hp) : Prop := ∃ x6 x7 x8 : Option V,
  σ = [some (.ref S.1), some (.ref p), some (.str y), some vk, some vr, some (.str (lastS y)), x6, x7, x8, none, none, none, none] ∧ Row K S H p ∧ Dp K H vk (.tuple (ks.map kD)) ∧ Dp K H vr M.d ∧ TabsN Ts H
theorem imm_kinds (ks : List (Str × Str)) : imm (.tuple (ks.map kD)) = true := immAll_of fun d hd => by
  obtain ⟨q, _, rfl⟩ := List.mem_map.mp hd
  rfl
theorem imm_mach (M : Mach) : imm M.d = true := by
  have h1 : immAll (M.rs.map rowP) = true := immAll_of fun d hd => by
    obtain ⟨r, _, rfl⟩ := List.mem_map.mp hd
    exact immAll_of fun e he => by
      obtain ⟨n, _, rfl⟩ := List.mem_map.mp he
      rfl
  have h2 : immAll (M.ys.map PyData.bool) = true := immAll_of fun d hd => by
    obtain ⟨r, _, rfl⟩ := List.mem_map.mp hd
    rfl
  show (true && (immAll (M.rs.map rowP) && (immAll (M.ys.map PyData.bool) && true))) = true
  rw [h1, h2]
  rfl
theorem r012 (W : Wo P w K mg base c g cdg c0 PT) (hr : Room 11 (A.deeper (envOfC "law" (defScope sLaw) s.heap.objs.size f (.ref c0)))) : ∃ t0 t1 t2, PS (lawX P w K mg base f (.ref c0) A outer s H0 E) (st 0) t0 ∧ PS (lawX P w K mg base f (.ref c0) A outer s H0 E) (st 1) t1 ∧ PS (lawX P w K mg base f (.ref c0) A outer s H0 E) (st 2) t2 ∧ ∀ (u : TS) (Dn : Ends) (a : Addr) (ns : List Int) (H : Hp), SqL K H a (ns.map V.int) → TabsN (tabs1 PT) H →
    (∀ p y ks M vk vr σ' H', Drawn y ks M → Stt K (tabs1 PT) (a, ns) p y ks M vk vr σ' H' → u Dn σ' H') → tSeq t0 (tSeq t1 (tSeq t2 u)) Dn (L2.start nLaw [.ref a]) H := by
  obtain ⟨R, hb, hv, D, TB, C0, C1, C2, C3, F⟩ := W
  refine ⟨_, _, _, ps_set (i := 1) sc_law.nd rfl (.inl rfl) (pe_lst (pa_cons (pv 0) (pa_cons pe_int (pa_cons pe_int (pa_cons pe_int pa_nil))))), ps_set (i := 2) sc_law.nd rfl (.inr rfl) (C8.pe_c C1 hr (by decide) (by rfl) (pa_cons (pv 1) pa_nil)), ps_asg (pe_tup (pa_cons (C8.pe_c C2 hr (by decide) (by rfl) (pa_cons (pv 1) (pa_cons (pv 2) (pa_cons pe_int pa_nil)))) (pa_cons (C8.pe_c C3 hr (by decide) (by rfl) (pa_cons (pv 1) (pa_cons (pv 2) (pa_cons pe_int pa_nil)))) (pa_cons (pe_ix ix_str (pv 2) (pe_un un_neg pe_int) (fun _ _ => rfl)) pa_nil)))) (pg_tup rfl (pgs_cons (pg_name (i := 3) sc_law.nd rfl (.inr rfl)) (pgs_cons (pg_name (i := 4) sc_law.nd rfl (.inr rfl)) (pgs_cons (pg_name (i := 5) sc_law.nd rfl (.inr rfl)) pgs_nil)))), fun u Dn a ns H hS hT k => ?_⟩
  refine ⟨.ref a, rfl, by show 4 ≤ sizeLine; decide, fun p np => ?_⟩
  have hR : Row K (a, ns) (upd H p (.lst [.ref a, .int 0, .int 7414, .int 0])) p := ⟨0, 7414, 0, upd_same, trivial, sqs_of hS np, by decide, by decide, by decide⟩
  have hT1 : TabsN (tabs1 PT) (upd H p (.lst [.ref a, .int 0, .int 7414, .int 0])) := hT.ext (Ex.new np)
  refine ⟨.ref p, rfl, p, (a, ns), rfl, hR, fun y H1 hy b1' R1 => ?_⟩
  obtain ⟨y1, y2, y3, y4⟩ := seven_ok y hy
  have hT2 := tabs_bt hR b1' hT1
  refine ⟨.ref p, rfl, .str y, rfl, p, (a, ns), y, 3, rfl, R1, y2, y3, y4, by decide, fun vk ks H2 hk kn kl kg b2 R2 => ?_⟩
  have hT3 := tabs_bt R1 b2 hT2
  refine ⟨.ref p, rfl, .str y, rfl, p, (a, ns), y, 3, rfl, R2, y1, by decide, by decide, fun vr M H3 hm mo my ml b3 R3 => ?_⟩
  have hT4 := tabs_bt R2 b3 hT3
  have hk3 : Dp K H3 vk (.tuple (ks.map kD)) := dp_tu (tu_bt R2 b3) (imm_kinds ks) hk
  obtain ⟨c, hc1, hc2⟩ := last_at y hy
  refine d_ixS (K := K) (z := y) (i := -1) (c := c) (d_var ⟨_, rfl, .str y⟩) (fun G _ Q q => ⟨1, rfl, q _ G (Ex.refl G) (.int _)⟩) (by omega) hc1 H3 (Ex.refl H3) _ fun vl H4 e4 hl => ?_
  cases hl
  refine ⟨Evl.sz_of (by simp), fun q nq => ⟨q, _, rfl, Evl.st_of upd_same, rfl, ?_⟩⟩
  have e5 : Ex H3 (upd H4 q (.tup [vk, vr, .str ⟨#[c]⟩])) := e4.trans (Ex.new nq)
  refine ⟨_, _, rfl, _, _, rfl, _, _, rfl, rfl, ?_⟩
  refine k p y ks M vk vr _ _ ⟨hy, ⟨kl, kn, kg⟩, mo, my⟩ ?_
  unfold Stt
  rw [hc2]
  exact ⟨_, _, _, rfl, R3.ex e5, dp_ex e5 hk3, dp_ex e5 hm, hT4.ext e5⟩
def scCall : Scope := ⟨.function, [((".0" : Str), NameKind.local), (("call" : Str), NameKind.local), (("_law_error" : Str), NameKind.globalImplicit)], false, false, []⟩
/-- if [call for call in calls if _law_error(call) != w] != []: return False -/
theorem ps_ifBad {cdv : Value} {wd : Str} {n : Nat} {p1 p2 p3 p4 p5 p6 p7 p8 p9 p10 p11 p12 p13 pos : Pos} (R : Ers K mg c) (hb : Bl mg) (hv : mg "ValueError" = none) (D : AskD K mg "_law_error" sError g cdg) (hr : Room 11 (lawX P w K mg base f cdv A outer s H0 E).A) :
    PS (lawX P w K mg base f cdv A outer s H0 E) (.If (.Compare (.ListComp (.Name "call" p1) [⟨.Name "call" p2, .Name "calls" p3, [.Compare (.Call (.Name "_law_error" p4) [.Name "call" p5] [] p6) [.NotEq] [.Constant (.str wd) n p7] p8], 0⟩] scCall p9) [.NotEq] [.List [] p10] p11) [.Return (some (.Constant (.bool false) 0 p12)) p13] [] pos)
      (tIfS (tTest (tOp (rNeD K) (tNone K 7 (rAsk (lawX P w K mg base f cdv A outer s H0 E) 9 (TTe c) wd)) (tLst tNil))) (tRet (tC (.bl false))) tNext) := by
  have hu : (lawX P w K mg base f cdv A outer s H0 E).A.units + 64 < cLine := by have := hr.un; omega
  exact ps_if (pt_cmpR (op_neD hu) (pe_lcN rfl sc_law.nd rfl (.inl rfl) (blkOk_by (N := nLaw) (sc := defScope sLaw) (own := [("call", 8)]) (by decide +kernel)) (fun _ _ _ _ _ => pg_name (i := 8) sc_law.nd rfl (.inl rfl)) (test_ask D sc_error rfl (.inl rfl) (gives_err R hb hv) hr (fun _ _ _ _ _ => by rfl) (fun _ _ _ _ _ => pv 8))) (pe_lst pa_nil) rfl) (pss_one (ps_ret pe_bl)) pss_nil
end
end K14

set_option maxHeartbeats 4000000
set_option autoImplicit false
/-! the law's loops over wrong values. -/
namespace K14
open PySem PySem.Spec PyProof.Rows L2 AsSort AsKit AsToo AsTry AsAct AsLcC AsLoose
open Evl (Ex Ev EvT EvA)
open LamX (ExtN TabB lamCx)
open NdefX (TabsN TabN NTab)
theorem okay_of {y z : Str} {ks : List (Str × Str)} {M : Mach} (dr : Drawn y ks M) (zl : z.length ≤ 40) (zi : allIn y z = true) : Okay (.str y) (.tuple (ks.map kD)) (.str z) :=
  let ⟨a, b, _, d⟩ := seven_ok y dr.my
  ⟨y, z, ks, rfl, rfl, rfl, b, by omega, a, zl, zi, by have := dr.os.1; omega, dr.os.2.1, dr.os.2.2⟩
theorem last_in {y : Str} (h : y ∈ seven) : allIn y (lastS y) = true := by
  have := List.all_eq_true.mp one_ok y h
  rw [Bool.and_eq_true] at this
  exact this.2
section
variable {P : Program} {w : World} {K : PySem.W.Frag} {mg : Str → Option Value} {base : Heap} {c : Cs} {f : Addr} {A : Around} {outer : List Env} {s : Shared} {H0 : Hp} {E : XK} {c0 PT g : Addr} {cdg : Value}
theorem r3 (W : Wo P w K mg base c g cdg c0 PT) (hr : Room 11 (A.deeper (envOfC "law" (defScope sLaw) s.heap.objs.size f (.ref c0)))) : ∃ t, PS (lawX P w K mg base f (.ref c0) A outer s H0 E) (st 3) t ∧ ∀ (Dn : Ends) (S : Addr × List Int) (p : Addr) (y : Str) (ks : List (Str × Str)) (M : Mach) (vk vr : V) (σ : L2.St) (H : Hp), Drawn y ks M → Stt K (tabs1 PT) S p y ks M vk vr σ H → (∀ σ' H', Stt K (tabs1 PT) S p y ks M vk vr σ' H' → Dn.nx σ' H') → t Dn σ H := by
  obtain ⟨R, hb, hv, D, TB, C0, C1, C2, C3, F⟩ := W
  have hr11 : Room 11 (lawX P w K mg base f (.ref c0) A outer s H0 E).A := hr
  have hu : (lawX P w K mg base f (.ref c0) A outer s H0 E).A.units + 64 < cLine := by have := hr11.un; omega
  refine ⟨_, ps_for PassesOwn.never rfl (pi_list (pe_lst (pa_cons pe_non (pa_cons pe_str (pa_cons pe_str (pa_cons pe_str (pa_cons pe_str (pa_cons pe_int (pa_cons (pe_lst (pa_cons pe_str pa_nil)) pa_nil))))))))) (pg_name (i := 6) sc_law.nd rfl (.inr rfl)) (pss_cons (ps_set (i := 7) sc_law.nd rfl (.inl rfl) (pe_lst (pa_cons (pe_lm0 (L := L_l30) TB rfl (List.mem_cons_self ..) rfl hu1 (lmS_by (show lmSB nLaw (defScope sLaw) L_l30 = true by decide +kernel)).free rfl rfl) (pa_cons (pe_lm1 (L := L_l31) TB rfl (List.mem_cons_self ..) rfl hu1 (lmS_by (show lmSB nLaw (defScope sLaw) L_l31 = true by decide +kernel)).free rfl rfl rfl) (pa_cons (pe_lm1 (L := L_l32) TB rfl (List.mem_cons_self ..) rfl hu1 (lmS_by (show lmSB nLaw (defScope sLaw) L_l32 = true by decide +kernel)).free rfl rfl rfl) pa_nil))))) (pss_one (ps_ifBad R hb hv D hr11))), fun Dn S p y ks M vk vr σ H dr st k => ?_⟩
  obtain ⟨y1, y2, y3, y4⟩ := seven_ok y dr.my
  have h1 := len1 y dr.my
  have hl9 : (lastS y).length + ("?" : Str).length ≤ 100000 := by
    have : ("?" : Str).length = 1 := by decide
    omega
  have lot : TxL (.tuple (ks.map kD)) ∧ lotD y (.tuple (ks.map kD)) = true := ⟨tx_kinds fun q hq => ⟨(dr.os.2.2 q hq).1, (dr.os.2.2 q hq).2.1⟩, lot_ok (by have := dr.os.1; omega) dr.os.2.1 dr.os.2.2⟩
  have ty : Tx (.str y) := fun z e => by cases e; omega
  obtain ⟨x6, x7, x8, rfl, hR, hk, hm, hT⟩ := st
  have a5 : At K [some (.ref S.1), some (.ref p), some (.str y), some vk, some vr, some (.str (lastS y)), x6, x7, x8, none, none, none, none] H 5 (.str (lastS y)) := ⟨_, rfl, .str _⟩
  refine s_forE (K := K) (ds := bads3) (d_lst (ds_cons d_non (ds_cons d_str (ds_cons d_str (ds_cons d_str (ds_cons d_str (ds_cons d_int (ds_cons (d_lst (ds_cons d_str ds_nil) (Nat.le_of_ble_eq_true rfl)) ds_nil))))))) (Nat.le_of_ble_eq_true rfl)) fun H1 e1 => ⟨fun _ σ' H' => ExtN H1 H' ∧ Stt K (tabs1 PT) S p y ks M vk vr σ' H', ⟨ExtN.refl H1, _, _, _, rfl, hR.ex e1, dp_ex e1 hk, dp_ex e1 hm, hT.ext e1⟩, fun j σ' H' q => q.1, fun j d x σ' H' hj hx ⟨eN, st'⟩ => ?_, fun σ' H' ⟨_, st'⟩ => k σ' H' st'⟩
  have hb3 := List.all_eq_true.mp bads3_ok d (List.mem_of_getElem? hj)
  rw [Bool.and_eq_true, Bool.not_eq_true'] at hb3
  obtain ⟨x6, x7, x8, rfl, hR, hk, hm, hT⟩ := st'
  dsimp only [gName]
  refine turn1 (X := (lawX P w K mg base f (.ref c0) A outer s H0 E)) (c := c) (wd := "BadLetters") (Ts := tabs1 PT) (Ls := [L_l30, L_l31, L_l32]) hT (by show 7 < 13; decide) (by show 3 ≤ 1000; decide) (fun v L hL => ?_) fun v G e t => ⟨eN.trans e, _, _, _, rfl, row_extN e hR, dp_extN e hk, dp_extN e hm, t⟩
  simp only [List.cons_append, List.nil_append, List.mem_cons, List.not_mem_nil, or_false] at hL
  rcases hL with rfl | rfl | rfl
  · exact ⟨_, l30 F, fun G Q e q => askFe (K := K) (c := c) (C := c.cL) (wd := "BadLetters") (.inl (.inl ⟨rfl, txB_ok hb3.1, hb3.2⟩)) (by simp [prs]) (ds_cons (d_var ⟨_, rfl, dp_extN e hx⟩) (ds_cons d_non (ds_cons d_non (ds_cons d_non ds_nil)))) q⟩
  · exact ⟨_, l31 F, fun G Q e q => askWa (K := K) (c := c) (C := c.cL) (wd := "BadLetters") (.inl (.inl ⟨rfl, txB_ok hb3.1, hb3.2⟩)) (by simp [prs]) (ds_cons (d_var ⟨_, rfl, dp_extN e hx⟩) (ds_cons d_non (ds_cons d_non (ds_cons d_non ds_nil)))) q⟩
  · exact ⟨_, l32 F, fun G Q e q => askLe (K := K) (c := c) (C := c.cL) (wd := "BadLetters") (.inl (.inl ⟨rfl, txB_ok hb3.1, hb3.2⟩)) (by simp [prs]) (ds_cons (d_var ⟨_, rfl, dp_extN e hx⟩) (ds_cons d_non (ds_cons d_non (ds_cons d_non (ds_cons d_non ds_nil))))) q⟩
theorem r4 (W : Wo P w K mg base c g cdg c0 PT) (hr : Room 11 (A.deeper (envOfC "law" (defScope sLaw) s.heap.objs.size f (.ref c0)))) : ∃ t, PS (lawX P w K mg base f (.ref c0) A outer s H0 E) (st 4) t ∧ ∀ (Dn : Ends) (S : Addr × List Int) (p : Addr) (y : Str) (ks : List (Str × Str)) (M : Mach) (vk vr : V) (σ : L2.St) (H : Hp), Drawn y ks M → Stt K (tabs1 PT) S p y ks M vk vr σ H → (∀ σ' H', Stt K (tabs1 PT) S p y ks M vk vr σ' H' → Dn.nx σ' H') → t Dn σ H := by
  obtain ⟨R, hb, hv, D, TB, C0, C1, C2, C3, F⟩ := W
  have hr11 : Room 11 (lawX P w K mg base f (.ref c0) A outer s H0 E).A := hr
  have hu : (lawX P w K mg base f (.ref c0) A outer s H0 E).A.units + 64 < cLine := by have := hr11.un; omega
  refine ⟨_, ps_for PassesOwn.never rfl (pi_list (pe_lst (pa_cons pe_non (pa_cons (pe_lst pa_nil) (pa_cons (pe_tup (pa_cons (pe_tup (pa_cons pe_str pa_nil)) pa_nil)) (pa_cons (pe_tup (pa_cons (pe_tup (pa_cons (pv 5) (pa_cons (pv 5) pa_nil))) pa_nil)) (pa_cons (pe_tup (pa_cons (pe_tup (pa_cons (pe_op op_mulS (pv 5) pe_int) (pa_cons pe_str pa_nil))) pa_nil)) (pa_cons (pe_tup (pa_cons (pe_tup (pa_cons pe_str (pa_cons pe_str pa_nil))) pa_nil)) (pa_cons (pe_tup (pa_cons (pe_tup (pa_cons (pv 5) (pa_cons pe_str pa_nil))) (pa_cons (pe_tup (pa_cons (pv 5) (pa_cons pe_str pa_nil))) pa_nil))) (pa_cons pe_int pa_nil)))))))))) (pg_name (i := 6) sc_law.nd rfl (.inr rfl)) (pss_cons (ps_set (i := 7) sc_law.nd rfl (.inl rfl) (pe_lst (pa_cons (pe_lm0 (L := L_l40) TB rfl (List.mem_cons_self ..) rfl hu1 (lmS_by (show lmSB nLaw (defScope sLaw) L_l40 = true by decide +kernel)).free rfl rfl) (pa_cons (pe_lm1 (L := L_l41) TB rfl (List.mem_cons_self ..) rfl hu1 (lmS_by (show lmSB nLaw (defScope sLaw) L_l41 = true by decide +kernel)).free rfl rfl rfl) (pa_cons (pe_lm1 (L := L_l42) TB rfl (List.mem_cons_self ..) rfl hu1 (lmS_by (show lmSB nLaw (defScope sLaw) L_l42 = true by decide +kernel)).free rfl rfl rfl) pa_nil))))) (pss_one (ps_if (pt_cmpR (op_neD hu) (pe_lcE rfl sc_law.nd (pe_op op_cat (pv 7) (pe_lst (pa_cons (pe_lm0 (L := L_l43) TB rfl (List.mem_cons_self ..) rfl hu1 (lmS_by (show lmSB nLaw (defScope sLaw) L_l43 = true by decide +kernel)).free rfl rfl) pa_nil))) (blkOk_by (N := nLaw) (sc := defScope sLaw) (own := [("call", 8)]) (by decide +kernel)) (fun _ _ _ _ _ => pg_name (i := 8) sc_law.nd rfl (.inl rfl)) (test_ask D sc_error rfl (.inl rfl) (gives_err R hb hv) hr11 (fun _ _ _ _ _ => by rfl) (fun _ _ _ _ _ => pv 8))) (pe_lst pa_nil) rfl) (pss_one (ps_ret pe_bl)) pss_nil))), fun Dn S p y ks M vk vr σ H dr st k => ?_⟩
  obtain ⟨y1, y2, y3, y4⟩ := seven_ok y dr.my
  have h1 := len1 y dr.my
  have hl9 : (lastS y).length + ("?" : Str).length ≤ 100000 := by
    have : ("?" : Str).length = 1 := by decide
    omega
  have lot : TxL (.tuple (ks.map kD)) ∧ lotD y (.tuple (ks.map kD)) = true := ⟨tx_kinds fun q hq => ⟨(dr.os.2.2 q hq).1, (dr.os.2.2 q hq).2.1⟩, lot_ok (by have := dr.os.1; omega) dr.os.2.1 dr.os.2.2⟩
  have ty : Tx (.str y) := fun z e => by cases e; omega
  obtain ⟨x6, x7, x8, rfl, hR, hk, hm, hT⟩ := st
  have a5 : At K [some (.ref S.1), some (.ref p), some (.str y), some vk, some vr, some (.str (lastS y)), x6, x7, x8, none, none, none, none] H 5 (.str (lastS y)) := ⟨_, rfl, .str _⟩
  refine s_forE (K := K) (ds := bads4 (lastS y)) (d_lst (ds_cons d_non (ds_cons (d_lst ds_nil (Nat.le_of_ble_eq_true rfl)) (ds_cons (d_tup (ds_cons (d_tup (ds_cons d_str ds_nil) (Nat.le_of_ble_eq_true rfl)) ds_nil) (Nat.le_of_ble_eq_true rfl)) (ds_cons (d_tup (ds_cons (d_tup (ds_cons (d_var a5) (ds_cons (d_var a5) ds_nil)) (Nat.le_of_ble_eq_true rfl)) ds_nil) (Nat.le_of_ble_eq_true rfl)) (ds_cons (d_tup (ds_cons (d_tup (ds_cons (d_mulS (d_var a5) d_int (mulok (n := 4) h1 (by decide) (by decide))) (ds_cons d_str ds_nil)) (Nat.le_of_ble_eq_true rfl)) ds_nil) (Nat.le_of_ble_eq_true rfl)) (ds_cons (d_tup (ds_cons (d_tup (ds_cons d_str (ds_cons d_str ds_nil)) (Nat.le_of_ble_eq_true rfl)) ds_nil) (Nat.le_of_ble_eq_true rfl)) (ds_cons (d_tup (ds_cons (d_tup (ds_cons (d_var a5) (ds_cons d_str ds_nil)) (Nat.le_of_ble_eq_true rfl)) (ds_cons (d_tup (ds_cons (d_var a5) (ds_cons d_str ds_nil)) (Nat.le_of_ble_eq_true rfl)) ds_nil)) (Nat.le_of_ble_eq_true rfl)) (ds_cons d_int ds_nil)))))))) (Nat.le_of_ble_eq_true rfl)) fun H1 e1 => ⟨fun _ σ' H' => ExtN H1 H' ∧ Stt K (tabs1 PT) S p y ks M vk vr σ' H', ⟨ExtN.refl H1, _, _, _, rfl, hR.ex e1, dp_ex e1 hk, dp_ex e1 hm, hT.ext e1⟩, fun j σ' H' q => q.1, fun j d x σ' H' hj hx ⟨eN, st'⟩ => ?_, fun σ' H' ⟨_, st'⟩ => k σ' H' st'⟩
  have hb3 := List.all_eq_true.mp (List.all_eq_true.mp bads4_ok y dr.my) d (List.mem_of_getElem? hj)
  rw [Bool.and_eq_true, Bool.not_eq_true'] at hb3
  obtain ⟨x6, x7, x8, rfl, hR, hk, hm, hT⟩ := st'
  dsimp only [gName]
  refine q_te (te := tLst (mkT (lawX P w K mg base f (.ref c0) A outer s H0 E) (tabs1 PT) [L_l40, L_l41, L_l42])) (i := 7) (R := fun x G => ∃ q fs, x = V.ref q ∧ ExtN H' G ∧ TabsN (tabs1 PT) G ∧ Made (lawX P w K mg base f (.ref c0) A outer s H0 E) G fs [L_l40, L_l41, L_l42] ∧ G q = some (.lst (fs.map V.ref))) (fun Q k => lst_go (Ls := [L_l40, L_l41, L_l42]) hT (by show 3 ≤ 1000; decide) fun q fs G e t m hp => k _ _ ⟨q, fs, rfl, e, t, m, hp⟩) fun x1 G hR1 => ?_
  obtain ⟨q7, fs, rfl, e2, t1, m1, hp1⟩ := hR1
  refine none_ifE (X := (lawX P w K mg base f (.ref c0) A outer s H0 E)) (c := c) (wd := "BadKinds") (Ts := tabs1 PT) (Ls := [L_l40, L_l41, L_l42] ++ [L_l43]) (Ms := []) (p := q7) (fs := fs) (te := tOp rCat (tVar 7) (tLst (mkT (lawX P w K mg base f (.ref c0) A outer s H0 E) (tabs1 PT) [L_l43]))) t1 (fun Q kk => cat_go rfl hp1 m1 t1 (by show 3 + 1 ≤ 1000; decide) kk) (fun L hL => ?_) fun G2 e3 t2 => ⟨eN.trans (e2.trans e3), _, _, _, rfl, row_extN (e2.trans e3) hR, dp_extN (e2.trans e3) hk, dp_extN (e2.trans e3) hm, t2⟩
  refine PL.ext ?_ e2
  simp only [List.cons_append, List.nil_append, List.mem_cons, List.not_mem_nil, or_false] at hL
  rcases hL with rfl | rfl | rfl | rfl
  · exact ⟨_, l40 F, fun G Q e q => askFe (K := K) (c := c) (C := c.cK) (wd := "BadKinds") (.inl (.inr (.inl ⟨rfl, y, rfl, ty, y1, txLB_ok hb3.1, hb3.2⟩))) (by simp [prs]) (ds_cons (d_var ⟨_, rfl, .str y⟩) (ds_cons (d_var ⟨_, rfl, dp_extN e hx⟩) (ds_cons d_non (ds_cons d_non ds_nil)))) q⟩
  · exact ⟨_, l41 F, fun G Q e q => askWa (K := K) (c := c) (C := c.cK) (wd := "BadKinds") (.inl (.inr (.inl ⟨rfl, y, rfl, ty, y1, txLB_ok hb3.1, hb3.2⟩))) (by simp [prs]) (ds_cons (d_var ⟨_, rfl, .str y⟩) (ds_cons (d_var ⟨_, rfl, dp_extN e hx⟩) (ds_cons d_non (ds_cons d_non ds_nil)))) q⟩
  · exact ⟨_, l42 F, fun G Q e q => askLe (K := K) (c := c) (C := c.cK) (wd := "BadKinds") (.inl (.inr (.inl ⟨rfl, y, rfl, ty, y1, txLB_ok hb3.1, hb3.2⟩))) (by simp [prs]) (ds_cons (d_var ⟨_, rfl, .str y⟩) (ds_cons (d_var ⟨_, rfl, dp_extN e hx⟩) (ds_cons d_non (ds_cons d_non (ds_cons d_non ds_nil))))) q⟩
  · exact ⟨_, l43 F, fun G Q e q => askOr (K := K) (c := c) (C := c.cK) (wd := "BadKinds") (.inr ⟨M, rfl, dr.om, .inl ⟨rfl, txLB_ok hb3.1, by rw [dr.oy]; exact hb3.2⟩⟩) (by simp [prs]) (ds_cons (d_var ⟨_, rfl, dp_extN e hm⟩) (ds_cons (d_var ⟨_, rfl, dp_extN e hx⟩) (ds_cons d_non ds_nil))) q⟩
theorem r5 (W : Wo P w K mg base c g cdg c0 PT) (hr : Room 11 (A.deeper (envOfC "law" (defScope sLaw) s.heap.objs.size f (.ref c0)))) : ∃ t, PS (lawX P w K mg base f (.ref c0) A outer s H0 E) (st 5) t ∧ ∀ (Dn : Ends) (S : Addr × List Int) (p : Addr) (y : Str) (ks : List (Str × Str)) (M : Mach) (vk vr : V) (σ : L2.St) (H : Hp), Drawn y ks M → Stt K (tabs1 PT) S p y ks M vk vr σ H → (∀ σ' H', Stt K (tabs1 PT) S p y ks M vk vr σ' H' → Dn.nx σ' H') → t Dn σ H := by
  obtain ⟨R, hb, hv, D, TB, C0, C1, C2, C3, F⟩ := W
  have hr11 : Room 11 (lawX P w K mg base f (.ref c0) A outer s H0 E).A := hr
  have hu : (lawX P w K mg base f (.ref c0) A outer s H0 E).A.units + 64 < cLine := by have := hr11.un; omega
  refine ⟨_, ps_for PassesOwn.never rfl (pi_list (pe_lst (pa_cons pe_non (pa_cons pe_int (pa_cons (pe_lst (pa_cons (pv 5) pa_nil)) (pa_cons (pe_op op_add_str (pv 5) pe_str) (pa_cons (pe_op op_mulS (pv 5) pe_int) pa_nil))))))) (pg_name (i := 6) sc_law.nd rfl (.inr rfl)) (pss_cons (ps_set (i := 7) sc_law.nd rfl (.inl rfl) (pe_lst (pa_cons (pe_lm0 (L := L_l50) TB rfl (List.mem_cons_self ..) rfl hu1 (lmS_by (show lmSB nLaw (defScope sLaw) L_l50 = true by decide +kernel)).free rfl rfl) (pa_cons (pe_lm1 (L := L_l51) TB rfl (List.mem_cons_self ..) rfl hu1 (lmS_by (show lmSB nLaw (defScope sLaw) L_l51 = true by decide +kernel)).free rfl rfl rfl) (pa_cons (pe_lm1 (L := L_l52) TB rfl (List.mem_cons_self ..) rfl hu1 (lmS_by (show lmSB nLaw (defScope sLaw) L_l52 = true by decide +kernel)).free rfl rfl rfl) pa_nil))))) (pss_cons (ps_set (i := 7) sc_law.nd rfl (.inl rfl) (pe_op op_cat (pv 7) (pe_lst (pa_cons (pe_lm0 (L := L_l53) TB rfl (List.mem_cons_self ..) rfl hu1 (lmS_by (show lmSB nLaw (defScope sLaw) L_l53 = true by decide +kernel)).free rfl rfl) (pa_cons (pe_lm1 (L := L_l54) TB rfl (List.mem_cons_self ..) rfl hu1 (lmS_by (show lmSB nLaw (defScope sLaw) L_l54 = true by decide +kernel)).free rfl rfl rfl) (pa_cons (pe_lm1 (L := L_l55) TB rfl (List.mem_cons_self ..) rfl hu1 (lmS_by (show lmSB nLaw (defScope sLaw) L_l55 = true by decide +kernel)).free rfl rfl rfl) pa_nil)))))) (pss_one (ps_ifBad R hb hv D hr11)))), fun Dn S p y ks M vk vr σ H dr st k => ?_⟩
  obtain ⟨y1, y2, y3, y4⟩ := seven_ok y dr.my
  have h1 := len1 y dr.my
  have hl9 : (lastS y).length + ("?" : Str).length ≤ 100000 := by
    have : ("?" : Str).length = 1 := by decide
    omega
  have lot : TxL (.tuple (ks.map kD)) ∧ lotD y (.tuple (ks.map kD)) = true := ⟨tx_kinds fun q hq => ⟨(dr.os.2.2 q hq).1, (dr.os.2.2 q hq).2.1⟩, lot_ok (by have := dr.os.1; omega) dr.os.2.1 dr.os.2.2⟩
  have ty : Tx (.str y) := fun z e => by cases e; omega
  obtain ⟨x6, x7, x8, rfl, hR, hk, hm, hT⟩ := st
  have a5 : At K [some (.ref S.1), some (.ref p), some (.str y), some vk, some vr, some (.str (lastS y)), x6, x7, x8, none, none, none, none] H 5 (.str (lastS y)) := ⟨_, rfl, .str _⟩
  refine s_forE (K := K) (ds := bads5 (lastS y)) (d_lst (ds_cons d_non (ds_cons d_int (ds_cons (d_lst (ds_cons (d_var a5) ds_nil) (Nat.le_of_ble_eq_true rfl)) (ds_cons (d_addS (d_var a5) d_str hl9) (ds_cons (d_mulS (d_var a5) d_int (mulok (n := 41) h1 (by decide) (by decide))) ds_nil))))) (Nat.le_of_ble_eq_true rfl)) fun H1 e1 => ⟨fun _ σ' H' => ExtN H1 H' ∧ Stt K (tabs1 PT) S p y ks M vk vr σ' H', ⟨ExtN.refl H1, _, _, _, rfl, hR.ex e1, dp_ex e1 hk, dp_ex e1 hm, hT.ext e1⟩, fun j σ' H' q => q.1, fun j d x σ' H' hj hx ⟨eN, st'⟩ => ?_, fun σ' H' ⟨_, st'⟩ => k σ' H' st'⟩
  have hb3 := List.all_eq_true.mp (List.all_eq_true.mp bads5_ok y dr.my) d (List.mem_of_getElem? hj)
  rw [Bool.and_eq_true, Bool.not_eq_true'] at hb3
  obtain ⟨x6, x7, x8, rfl, hR, hk, hm, hT⟩ := st'
  dsimp only [gName]
  have m9 := muls y dr.my 9 (by decide)
  have ok9 := okay_of (z := Txt.mul (lastS y) 9) dr (by have := m9.1; show (Txt.mul (lastS y) ((9 : Nat) : Int)).length ≤ 40; omega) m9.2
  have okl := okay_of (z := lastS y) dr (by omega) (last_in dr.my)
  have oke := okay_of (z := "") dr (by decide) rfl
  refine turn2 (X := (lawX P w K mg base f (.ref c0) A outer s H0 E)) (c := c) (wd := "BadText") (Ts := tabs1 PT) (Ls := [L_l50, L_l51, L_l52]) (Ms := [L_l53, L_l54, L_l55]) hT (by show 7 < 13; decide) (by show 3 + 3 ≤ 1000; decide) (fun v L hL => ?_) fun v G e t => ⟨eN.trans e, _, _, _, rfl, row_extN e hR, dp_extN e hk, dp_extN e hm, t⟩
  simp only [List.cons_append, List.nil_append, List.mem_cons, List.not_mem_nil, or_false] at hL
  rcases hL with rfl | rfl | rfl | rfl | rfl | rfl
  · exact ⟨_, l50 F, fun G Q e q => askFe (K := K) (c := c) (C := c.cT) (wd := "BadText") (.inl (.inr (.inr ⟨rfl, y, rfl, ty, y1, lot.1, lot.2, txB_ok hb3.1, hb3.2⟩))) (by simp [prs]) (ds_cons (d_var ⟨_, rfl, .str y⟩) (ds_cons (d_var ⟨_, rfl, dp_extN e hk⟩) (ds_cons (d_var ⟨_, rfl, dp_extN e hx⟩) (ds_cons d_non ds_nil)))) q⟩
  · exact ⟨_, l51 F, fun G Q e q => askWa (K := K) (c := c) (C := c.cT) (wd := "BadText") (.inr ⟨rfl, ok9, y, rfl, txB_ok hb3.1, hb3.2⟩) (by simp [prs]) (ds_cons (d_var ⟨_, rfl, .str y⟩) (ds_cons (d_var ⟨_, rfl, dp_extN e hk⟩) (ds_cons (d_mulS (d_var (i := 5) ⟨_, rfl, .str _⟩) d_int (mulok (n := 9) h1 (by decide) (by decide))) (ds_cons (d_var ⟨_, rfl, dp_extN e hx⟩) ds_nil)))) q⟩
  · exact ⟨_, l52 F, fun G Q e q => askLe (K := K) (c := c) (C := c.cT) (wd := "BadText") (.inl (.inr (.inr ⟨rfl, y, rfl, ty, y1, lot.1, lot.2, txB_ok hb3.1, hb3.2⟩))) (by simp [prs]) (ds_cons (d_var ⟨_, rfl, .str y⟩) (ds_cons (d_var ⟨_, rfl, dp_extN e hk⟩) (ds_cons (d_var ⟨_, rfl, dp_extN e hx⟩) (ds_cons d_non (ds_cons d_non ds_nil))))) q⟩
  · exact ⟨_, l53 F, fun G Q e q => askLe (K := K) (c := c) (C := c.cT) (wd := "BadText") (.inr ⟨rfl, okl, y, rfl, txB_ok hb3.1, hb3.2⟩) (by simp [prs]) (ds_cons (d_var ⟨_, rfl, .str y⟩) (ds_cons (d_var ⟨_, rfl, dp_extN e hk⟩) (ds_cons (d_var (i := 5) ⟨_, rfl, .str _⟩) (ds_cons d_non (ds_cons (d_var ⟨_, rfl, dp_extN e hx⟩) ds_nil))))) q⟩
  · exact ⟨_, l54 F, fun G Q e q => askOr (K := K) (c := c) (C := c.cT) (wd := "BadText") (.inr ⟨M, rfl, dr.om, .inr ⟨rfl, lot.1, by rw [dr.oy]; exact lot.2, txB_ok hb3.1, by rw [dr.oy]; exact hb3.2⟩⟩) (by simp [prs]) (ds_cons (d_var ⟨_, rfl, dp_extN e hm⟩) (ds_cons (d_var ⟨_, rfl, dp_extN e hk⟩) (ds_cons (d_var ⟨_, rfl, dp_extN e hx⟩) ds_nil))) q⟩
  · exact ⟨_, l55 F, fun G Q e q => askFe (K := K) (c := c) (C := c.cT) (wd := "BadText") (.inr ⟨rfl, oke, y, rfl, txB_ok hb3.1, hb3.2⟩) (by simp [prs]) (ds_cons (d_var ⟨_, rfl, .str y⟩) (ds_cons (d_var ⟨_, rfl, dp_extN e hk⟩) (ds_cons d_str (ds_cons (d_var ⟨_, rfl, dp_extN e hx⟩) ds_nil)))) q⟩
end
end K14

set_option maxHeartbeats 4000000
set_option autoImplicit false
/-! f'..' as data; x if t else y. -/
namespace AsKit
open PySem PySem.Spec PyProof.Rows L2 AsSort
open Evl (Ex Ev EvT EvA)
section
variable {K : PySem.W.Frag} {σ : L2.St} {H : Hp} {te ta tb : TE} {t : TT} {d : PyData}
theorem d_fmtS {y : Str} (h : EvD K te σ H (.str y)) (hl : y.length ≤ 100000) : EvD K (tFmt te) σ H (.str y) := fun H1 a Q q => h H1 a _ fun v H2 x hv => by
  cases hv
  exact .inl ⟨y, rfl, Evl.sz_of hl, q _ H2 x (.str _)⟩
theorem d_fmtI {i : Int} (h : EvD K te σ H (.int i)) (hl : i.natAbs.log2 < 1920) : EvD K (tFmt te) σ H (.str (toString i)) := fun H1 a Q q => h H1 a _ fun v H2 x hv => by
  cases hv
  exact .inr ⟨i, rfl, hl, q _ H2 x (.str _)⟩
/-- the pieces of f'..' -/
inductive Pcs (K : PySem.W.Frag) (σ : L2.St) (H : Hp) : List TE → List Str → Prop where
  | nil : Pcs K σ H [] []
  | cons {t : TE} {y : Str} {ts : List TE} {ys : List Str} : EvD K t σ H (.str y) → Pcs K σ H ts ys → Pcs K σ H (t :: ts) (y :: ys)
theorem Pcs.mono {H' : Hp} (e : Ex H H') : ∀ {ts : List TE} {ys : List Str}, Pcs K σ H ts ys → Pcs K σ H' ts ys
  | _, _, .nil => .nil
  | _, _, .cons a b => .cons (a.mono e) (Pcs.mono e b)
def js (ys : List Str) (acc : Str) : Str := ys.foldl (· ++ ·) acc
theorem js_go : ∀ {ts : List TE} {ys : List Str} {acc : Str} {H : Hp} {Q : Str → Hp → Prop}, Pcs K σ H ts ys → acc.length + (ys.map (·.length)).sum ≤ 100000 → (∀ H1, Ex H H1 → Q (js ys acc) H1) → tJs ts acc σ H Q
  | _, _, acc, H, Q, .nil, _, q => q H (Ex.refl H)
  | _, _, acc, H, Q, .cons (y := y) (ys := ys) a b, hl, q => a H (Ex.refl H) _ fun v H1 e hv => by
    cases hv
    have hl2 : (acc ++ y).length + (ys.map (·.length)).sum ≤ 100000 := by
      rw [add_len]
      rw [List.map_cons, List.sum_cons] at hl
      omega
    exact ⟨y, rfl, Evl.sz_of (by omega), js_go (b.mono e) hl2 fun H2 e2 => q H2 (e.trans e2)⟩
theorem d_js {ts : List TE} {ys : List Str} (h : Pcs K σ H ts ys) (hl : (ys.map (·.length)).sum ≤ 100000) : EvD K (fun σ H Q => tJs ts Str.empty σ H fun out H1 => Q (.str out) H1) σ H (.str (js ys Str.empty)) := fun H1 a Q q =>
  js_go (h.mono a) (by show 0 + _ ≤ _; omega) fun H2 e => q _ H2 e (.str _)
theorem d_ifE {b : Bool} (ht : EvT t σ H b) (h1 : b = true → EvD K ta σ H d) (h2 : b = false → EvD K tb σ H d) : EvD K (tIf t ta tb) σ H d := fun H1 a Q q => ht H1 a _ fun H2 e => by
  cases b with
  | true => exact h1 rfl H2 (a.trans e) Q fun v H3 x hv => q v H3 (e.trans x) hv
  | false => exact h2 rfl H2 (a.trans e) Q fun v H3 x hv => q v H3 (e.trans x) hv
/-- a list that no one else knows -/
def EvO (K : PySem.W.Frag) (te : TE) (σ : L2.St) (H : Hp) (ds : List PyData) : Prop := ∀ H1, Ex H H1 → ∀ Q : VK, (∀ p vs H2, Ex H1 H2 → H1 p = none → H2 p = some (.lst vs) → DpAll K H2 vs ds → Q (.ref p) H2) → te σ H1 Q
theorem o_lst {tl : TA} {ds : List PyData} (h : EvDs K tl σ H ds) (hl : ds.length ≤ 100000) : EvO K (tLst tl) σ H ds := fun H1 x Q q =>
  h H1 x _ fun vs H2 e hv => ⟨Evl.sz_of (by rw [dpAll_len hv]; exact hl), fun p np => q p vs _ (e.trans (Ex.new np)) (by
    cases z : H1 p with
    | none => rfl
    | some o => rw [e p o z] at np; cases np) upd_same (dpAll_ex (Ex.new np) hv)⟩
theorem q_asgO {D : Ends} {tz : TS} {i : Nat} {ds : List PyData} (h : EvO K te σ H ds) (k : ∀ p vs H1, Ex H H1 → H p = none → H1 p = some (.lst vs) → DpAll K H1 vs ds → tz D (σ.set i (some (.ref p))) H1) : tSeq (tAsg te (gName i)) tz D σ H :=
  h H (Ex.refl H) _ fun p vs H1 e n hp hv => k p vs H1 e n hp hv
theorem strs_of {G : Hp} : ∀ {xs : List V} {zs : List Str}, DpAll K G xs (zs.map PyData.str) → xs = zs.map V.str
  | _, [], .nil => rfl
  | _, _ :: _, .cons (.str z) t => by rw [strs_of t]; rfl
end
end AsKit

set_option maxHeartbeats 4000000
set_option autoImplicit false
/-! *xs, y = a list. -/
namespace AsStar
open PySem PySem.Spec PyProof.Rows L2
section
variable {X : Cx} {pos : Pos}
/-- the first target takes all but the last ones -/
def gStar (K : PySem.W.Frag) (n : Nat) (t : TGs) : TG := fun v σ H Q => ∃ a xs, v = .ref a ∧ SqL K H a xs ∧ n ≤ xs.length + 1 ∧ ∀ D, H D = none → t (.ref D :: xs.drop (xs.length + 1 - n)) σ (upd H D (.lst (xs.take (xs.length + 1 - n)))) Q
theorem pgs_starred {e : Expr} {es : List Expr} {t : TG} {u : TGs} {p : Pos} (h1 : PG X e t) (h2 : PGs X es u) : PGs X (.Starred e p :: es) (gCons t u) := by
  refine ⟨fun pins s σ H vs us Q I r h => ?_⟩
  obtain ⟨v, vr, rfl, h⟩ := h
  cases r with
  | cons r rr =>
    show wpAny _ _ (assignInOrder (assign e X.env :: (assignEach es X.env).map (·.2)) _) _ _ _
    exact assignInOrder_cons (thn (h1.run pins s σ H _ _ _ I r h) fun _ s1 ⟨σ1, H1, I1, q⟩ => h2.run pins s1 σ1 H1 _ _ _ I1 rr q)
theorem pg_star {es : List Expr} {k : Nat} {t : TGs} {n : Nat} (hc : X.calm = true) (h : PGs X es t) (h1 : 0 < n)
    (hn : (assignEach es X.env).length = n := by rfl) (hst : (assignEach es X.env).findIdx? (·.1) = some 0 := by rfl) : PG X (.Tuple es k pos) (gStar X.K n t) := by
  refine ⟨fun pins s σ H v u Q I r hw => ?_⟩
  obtain ⟨a, xs, rfl, hq, hl, q⟩ := hw
  cases r
  obtain ⟨its, rv, pl, hz⟩ := I.list hq
  have il := pl.isList
  have ln : its.length = xs.length := rv.length.symm
  have az : its.toArray.size = xs.length := by rw [List.size_toArray, ln]
  have hlt : a ≠ s.heap.objs.size := by
    obtain ⟨o, ho, _⟩ := il
    exact Nat.ne_of_lt (Heap.lt_size ho)
  have il2 := il
  obtain ⟨ol, hol, _⟩ := il2
  rw [PyProof.Rows.assign_Tuple]
  refine wpAny_bind (wpAny_standAt ?_)
  unfold unpack
  rw [hst, show (assignEach es X.env).length = n from hn]
  refine wpAny_bind (wpAny_holding ?_)
  unfold unpackItems
  refine wpAny_bind ?_
  unfold notIterableAtAll
  refine wpAny_bind (wpAny_specialOf il.typeIs slot_list_iter.lookup ?_)
  refine wpAny_pure ?_
  simp only [Bool.false_eq_true, if_false]
  refine wpAny_bind (wpAny_holding (wpAny_pyIter_list il ?_))
  refine wpAny_bind (wpAny_holding (wpAny_pure ?_))
  rw [if_neg (by simp)]
  have hh : X.A.in1.handled = none := I.ok.hd hc
  refine wpAny_bind (wpAny_holding (PySem.W.kun_collect (items := its.toArray) (T := "list_iterator") (.inr (.inr (.inl rfl))) (Walks.list (A := X.A.in1) hh s.heap.objs.size a hlt its.toArray) (fun j u st => st.1.typeIs) (k := 0) (Nat.zero_le _) ⟨⟨_, Heap.get?_push_size _ rfl, rfl, rfl⟩, il.push _⟩ (by show s.heap.objs.size < (s.heap.push _).objs.size; rw [Heap.size_push]; exact Nat.lt_succ_self _) (by show a < (s.heap.push _).objs.size; rw [Heap.size_push]; exact Nat.lt_succ_of_lt (Heap.lt_size hol)) (fun h' tk hk => ?_) (by rw [az]; exact hz)))
  rw [List.drop_zero]
  have el : its.toArray.toList = its := by simp
  rw [el]
  have hm : its.length - (n - 1 - 0) = xs.length + 1 - n := by omega
  show wpAny _ _ (if its.length < n - 1 - 0 then _ else _) _ _ _
  rw [if_neg (by omega)]
  show wpAny _ _ (newList (its.take (its.length - (n - 1 - 0))) >>= fun d => pure ([] ++ [d] ++ its.drop (its.length - (n - 1 - 0)))) _ _ _
  rw [hm]
  refine wpAny_bind (wpAny_newList ?_ (by rw [List.length_take]; omega))
  refine wpAny_pure ?_
  have ex : ∀ b o, s.heap.get? b = some o → h'.get? b = some o := fun b o e => hk b o (Nat.ne_of_lt (Heap.lt_size e)) (Heap.get?_push_of_some _ e)
  have I1 : Inv X pins σ H { s with heap := h', toks := tk } := I.kept ex
  have nD : H h'.objs.size = none := I1.hok.fresh (Nat.le_refl _)
  have I2 : Inv X pins σ (upd H h'.objs.size (.lst (xs.take (xs.length + 1 - n)))) { s with heap := h'.push { cls := .type "list", data := .seq (its.take (xs.length + 1 - n)).toArray }, toks := tk } := by
    refine I1.laid (t' := tk) (fun b o e => Heap.get?_push_of_some _ e) (Nat.le_refl _) ⟨by rw [List.length_take]; omega, its.take (xs.length + 1 - n), 0, rv.take _, ?_⟩
    exact Heap.get?_push_size _ rfl
  exact h.run pins _ σ _ _ (.ref h'.objs.size :: its.drop (xs.length + 1 - n)) _ I2 (Paired.cons (show RelV (.ref h'.objs.size) (.ref h'.objs.size) from rfl) (rv.drop _)) (q _ nD)
end
end AsStar

set_option maxHeartbeats 4000000
set_option autoImplicit false
/-! texts split; texts in lists of texts; tuples joined and cut; as data. -/
namespace AsKit
open PySem PySem.Spec PyProof.Rows L2 AsSort
open Evl (Ex Ev EvT EvA)
section
variable {K : PySem.W.Frag} {σ : L2.St} {H : Hp} {te ta tb : TE} {t : TT} {d : PyData} {ds es : List PyData}
theorem dp_strs3 {G : Hp} : ∀ zs : List Str, DpAll K G (zs.map V.str) (zs.map PyData.str)
  | [] => .nil
  | z :: zs => .cons (.str z) (dp_strs3 zs)
abbrev rSplit : V → List V → Hp → VK → Prop := fun x xs H Q => ∃ a b, x = .str a ∧ xs = [.str b] ∧ (b.length == 0) = false ∧ a.length + 2 ≤ sizeLine ∧ rNewStrs (Txt.split a b) H Q
theorem d_split {x y : Str} (h : EvD K ta σ H (.str x)) (h2 : EvD K tb σ H (.str y)) (hy : (y.length == 0) = false) (hx : x.length ≤ 90000) : EvD K (tM1 rSplit ta tb) σ H (.list ((Txt.split x y).map PyData.str)) := fun H1 a Q q =>
  h H1 a _ fun v H2 e hv => by
    cases hv
    exact ⟨⟨_, rfl⟩, h2 H2 (a.trans e) _ fun u H3 e3 hu => by
      cases hu
      exact ⟨_, _, rfl, rfl, hy, Evl.sz_of (by omega), fun p np => q _ _ ((e.trans e3).trans (Ex.new np)) (.lst (Evl.sq_of upd_same) (dp_strs3 _))⟩⟩
abbrev rStrI : List V → Hp → VK → Prop := fun xs H Q => ∃ i, xs = [.int i] ∧ i.natAbs.log2 < 1920 ∧ Q (.str (toString i)) H
theorem d_strI {i : Int} (h : EvD K ta σ H (.int i)) (hi : i.natAbs.log2 < 1920) : EvD K (tCB rStrI (tCons ta tNil)) σ H (.str (toString i)) := fun H1 a Q q =>
  h H1 a _ fun v H2 e hv => by
    cases hv
    exact ⟨i, rfl, hi, q _ H2 e (.str _)⟩
theorem flat_strs (zs : List Str) : (zs.map V.str).all flatV = true := List.all_eq_true.mpr fun v hv => by
  obtain ⟨z, _, rfl⟩ := List.mem_map.mp hv
  rfl
theorem in_strs (w : Str) (zs : List Str) : inV (.str w) (zs.map V.str) = decide (w ∈ zs) := by
  unfold inV
  rw [List.any_map]
  have e : ((fun y => eqV y (.str w)) ∘ V.str) = fun z : Str => z == w := rfl
  rw [e]
  by_cases h : w ∈ zs
  · rw [decide_eq_true h]
    exact List.any_eq_true.mpr ⟨w, h, beq_self_eq_true w⟩
  · rw [decide_eq_false h]
    refine List.any_eq_false.mpr fun z hz => ?_
    intro e
    rw [eq_of_beq e] at hz
    exact h hz
/-- w in zs, w not in zs: texts -/
theorem d_inSs {w : Str} {zs : List Str} {neg : Bool} (h : EvD K ta σ H (.str w)) (h2 : EvD K tb σ H (.list (zs.map PyData.str))) : EvD K (tOp (rIn K neg) ta tb) σ H (.bool (if neg then !decide (w ∈ zs) else decide (w ∈ zs))) := fun H1 a Q q =>
  h H1 a _ fun v H2 e hv => h2 H2 (a.trans e) _ fun u H3 e3 hu => by
    cases hv
    cases hu with
    | lst hs hx =>
      have ex := strs_of hx
      subst ex
      exact ⟨_, _, rfl, .inl hs, rfl, flat_strs zs, by rw [in_strs]; exact q _ H3 (e.trans e3) (.bl _)⟩
/-- zs.index(w) -/
theorem d_indexS {w : Str} {zs : List Str} {j : Nat} (h : EvD K ta σ H (.list (zs.map PyData.str))) (h2 : EvD K tb σ H (.str w)) (hj : zs[j]? = some w) (hno : ∀ m, m < j → zs[m]? ≠ some w) : EvD K (tBM K "list" (rIndex K) ta (tCons tb tNil)) σ H (.int (j : Nat)) := fun H1 a Q q =>
  h H1 a _ fun v H2 e hv => by
    cases hv with
    | lst hs hx =>
      have ex := strs_of hx
      subst ex
      refine ⟨.inl ⟨rfl, _, hs⟩, h2 H2 (a.trans e) _ fun u H3 e3 hu => ?_⟩
      cases hu
      refine ⟨_, _, .str w, j, .str w, rfl, rfl, Evl.ex_l e3 hs, rfl, flat_strs zs, by rw [List.getElem?_map, hj]; rfl, by show (w == w) = true; exact beq_self_eq_true w, fun m z' hm hz => ?_, q _ H3 (e.trans e3) (.int _)⟩
      rw [List.getElem?_map] at hz
      cases hk : zs[m]? with
      | none => rw [hk] at hz; cases hz
      | some y =>
        rw [hk] at hz
        cases hz
        show (y == w) = false
        cases hb : (y == w) with
        | false => rfl
        | true => exact absurd (by rw [hk, eq_of_beq hb]) (hno m hm)
/-- tuples joined -/
theorem d_catT (h : EvD K ta σ H (.tuple ds)) (h2 : EvD K tb σ H (.tuple es)) (n1 : ds ≠ []) (n2 : es ≠ []) (hl : ds.length + es.length ≤ 1000) : EvD K (tOp (rCatT K) ta tb) σ H (.tuple (ds ++ es)) := fun H1 a Q q =>
  h H1 a _ fun v H2 e hv => h2 H2 (a.trans e) _ fun u H3 e3 hu => by
    cases hv with
    | tup hs hx =>
      cases hu with
      | tup hs2 hx2 =>
        rename_i p xs p2 ys
        have l1 : xs.length = ds.length := dpAll_len hx
        have l2 : ys.length = es.length := dpAll_len hx2
        have app : ∀ {G : Hp} {ws : List V} {es : List PyData}, DpAll K G ws es → ∀ {vs : List V} {ds : List PyData}, DpAll K G vs ds → DpAll K G (vs ++ ws) (ds ++ es) := by
          intro G ws es h2 vs
          induction vs with
          | nil => intro ds h; cases h; exact h2
          | cons v vs ih => intro ds h; cases h with | cons a b => exact .cons a (ih b)
        have ne : ys ≠ [] := fun z => by
          rw [z] at l2
          exact n2 (List.length_eq_zero_iff.mp l2.symm)
        have ne1 : xs ≠ [] := fun z => by
          rw [z] at l1
          exact n1 (List.length_eq_zero_iff.mp l1.symm)
        exact ⟨p, p2, xs, ys, rfl, rfl, Evl.ex_t e3 hs, hs2, ne1, Evl.sz_of (by omega), fun z => (ne z).elim, fun _ l hl => q _ _ ((e.trans e3).trans (Ex.new hl)) (.tup (Evl.st_of upd_same) (dpAll_ex (Ex.new hl) (app hx2 (dpAll_ex e3 hx))))⟩
/-- t[1:], t of three -/
theorem d_sl13 {tl th : TO} {a b c : PyData} (h : EvD K ta σ H (.tuple [a, b, c])) (h1 : EvP K tl σ H (some 1)) (h2 : EvP K th σ H none) : EvD K (tSl (rSlT K) ta tl th) σ H (.tuple [b, c]) := fun H1 x Q q =>
  h H1 x _ fun v H2 e hv => h1 H2 (x.trans e) _ fun H3 e3 => h2 H3 ((x.trans e).trans e3) _ fun H4 e4 => by
    cases hv with
    | tup hs hx =>
      cases hx with
      | cons ha hx =>
        cases hx with
        | cons hb hx =>
          cases hx with
          | cons hc hx =>
            cases hx
            rename_i p va vb vc
            refine ⟨p, [va, vb, vc], rfl, Evl.ex_t (e3.trans e4) hs, fun z => ?_, fun l nl => ?_⟩
            · have z1 : (1 : Nat) = 0 := z.1
              omega
            · have ec : cutV [va, vb, vc] (some 1) none = [vb, vc] := rfl
              rw [ec]
              have ex : Ex H2 (upd H4 l (.tup [vb, vc])) := (e3.trans e4).trans (Ex.new nl)
              exact q _ _ (e.trans ex) (.tup (Evl.st_of upd_same) (.cons (dp_ex ex hb) (.cons (dp_ex ex hc) .nil)))
end
end AsKit

set_option maxHeartbeats 4000000
set_option autoImplicit false
/-! the law's last statements. -/
namespace K14
open PySem PySem.Spec PyProof.Rows L2 AsSort AsKit AsToo AsTry AsAct AsLcC AsLoose
open Evl (Ex Ev EvT EvA)
open LamX (ExtN TabB lamCx)
open NdefX (TabsN TabN NTab)
section
variable {K : PySem.W.Frag} {σ : L2.St} {H : Hp} {ta : TE}
theorem d_sl02 {tl th : TO} {a b c : PyData} (h : EvD K ta σ H (.tuple [a, b, c])) (h1 : EvP K tl σ H none) (h2 : EvP K th σ H (some 2)) : EvD K (tSl (rSlT K) ta tl th) σ H (.tuple [a, b]) := fun H1 x Q q =>
  h H1 x _ fun v H2 e hv => h1 H2 (x.trans e) _ fun H3 e3 => h2 H3 ((x.trans e).trans e3) _ fun H4 e4 => by
    cases hv with
    | tup hs hx =>
      obtain ⟨va, vb, vc, rfl, ha, hb, hc⟩ := dp3 hx
      refine ⟨_, [va, vb, vc], rfl, Evl.ex_t (e3.trans e4) hs, fun z => ?_, fun l nl => ?_⟩
      · have z1 : (2 : Nat) = 3 := z.2
        omega
      · have ec : cutV [va, vb, vc] none (some 2) = [va, vb] := rfl
        rw [ec]
        have ex : Ex H2 (upd H4 l (.tup [va, vb])) := (e3.trans e4).trans (Ex.new nl)
        exact q _ _ (e.trans ex) (.tup (Evl.st_of upd_same) (.cons (dp_ex ex ha) (.cons (dp_ex ex hb) .nil)))
/-- the values that are no readers -/
def odds (M : Mach) : List PyData := [.none, .tuple [], .list [.str M.y, .tuple (M.rs.map rowP), .tuple (M.ys.map PyData.bool)], .tuple [.str M.y, .tuple (M.rs.map rowP)], .tuple [.str M.y, .tuple [], .tuple []], .tuple [.str "", .tuple (M.rs.map rowP), .tuple (M.ys.map PyData.bool)], .int 3]
theorem odds_ok {M : Mach} (h1 : isLetS M.y = true) (h2 : M.y.length ≤ 1000) : ∀ d ∈ odds M, TxR d ∧ readerD d = false := by
  intro d hd
  simp only [odds, List.mem_cons, List.not_mem_nil, or_false] at hd
  have ty : ∀ e : PyData, (e = .str M.y ∨ ∃ xs, e = .tuple xs) → Tx e := fun e he z ez => by
    rcases he with rfl | ⟨xs, rfl⟩
    · cases ez; omega
    · cases ez
  rcases hd with rfl | rfl | rfl | rfl | rfl | rfl | rfl
  · exact ⟨(fun ds e => nomatch e), readerD_no (by decide +kernel)⟩
  · exact ⟨(fun ds e x hx => by cases e; exact absurd hx List.not_mem_nil), readerL_len (ds := []) (by decide)⟩
  · exact ⟨(fun ds e => nomatch e), readerD_no (show isK "list" "tuple" = false by decide +kernel)⟩
  · refine ⟨(fun ds e x hx => ?_), readerL_len (ds := [.str M.y, .tuple (M.rs.map rowP)]) (by show 2 ≠ 3; decide)⟩
    cases e
    rcases List.mem_cons.mp hx with rfl | hx
    · exact ty _ (.inl rfl)
    · exact ty _ (.inr ⟨_, List.mem_singleton.mp hx⟩)
  · refine ⟨(fun ds e x hx => ?_), ?_⟩
    · cases e
      rcases List.mem_cons.mp hx with rfl | hx
      · exact ty _ (.inl rfl)
      · rcases List.mem_cons.mp hx with rfl | hx
        · exact ty _ (.inr ⟨_, rfl⟩)
        · exact ty _ (.inr ⟨_, List.mem_singleton.mp hx⟩)
    · show (isLettersD (.str M.y) && (isD "tuple" (.tuple []) && (isD "tuple" (.tuple []) && okRows (.str M.y) (.tuple []) (.tuple [])))) = false
      rw [show okRows (.str M.y) (.tuple []) (.tuple []) = false from rfl, Bool.and_false, Bool.and_false, Bool.and_false]
  · refine ⟨(fun ds e x hx => ?_), ?_⟩
    · cases e
      rcases List.mem_cons.mp hx with rfl | hx
      · exact fun z ez => by cases ez; decide
      · rcases List.mem_cons.mp hx with rfl | hx
        · exact ty _ (.inr ⟨_, rfl⟩)
        · exact ty _ (.inr ⟨_, List.mem_singleton.mp hx⟩)
    · show (isLettersD (.str "") && (isD "tuple" (.tuple (M.rs.map rowP)) && (isD "tuple" (.tuple (M.ys.map PyData.bool)) && okRows (.str "") (.tuple (M.rs.map rowP)) (.tuple (M.ys.map PyData.bool))))) = false
      rw [show isLettersD (.str "") = false by decide +kernel, Bool.false_and]
  · exact ⟨(fun ds e => nomatch e), readerD_no (by decide +kernel)⟩
def dueK (k : Nat) : PyData := if 0 < k then dueL else .str ""
end
section
variable {P : Program} {w : World} {K : PySem.W.Frag} {mg : Str → Option Value} {base : Heap} {c : Cs} {f : Addr} {A : Around} {outer : List Env} {s : Shared} {H0 : Hp} {E : XK} {c0 PT g : Addr} {cdg : Value}
/-- behind long and due -/
def StD (K : PySem.W.Frag) (Ts : List NTab) (S : Addr × List Int) (p : Addr) (y : Str) (ks : List (Str × Str)) (M : Mach) (vk vr : V) (k : Nat) (σ : L2.St) (H : Hp) : Prop := ∃ (x6 x7 x8 : Option V) (vd : V), k < 3 ∧
  σ = [some (.ref S.1), some (.ref p), some (.str y), some vk, some vr, some (.str (lastS y)), x6, x7, x8, some (.str (Txt.mul (lastS y) ((8 + k : Nat) : Int))), some vd, none, none] ∧ Row K S H p ∧ Dp K H vk (.tuple (ks.map kD)) ∧ Dp K H vr M.d ∧ TabsN Ts H ∧ Dp K H vd (dueK k)
theorem r67 (W : Wo P w K mg base c g cdg c0 PT) (hr : Room 11 (A.deeper (envOfC "law" (defScope sLaw) s.heap.objs.size f (.ref c0)))) : ∃ t6 t7, PS (lawX P w K mg base f (.ref c0) A outer s H0 E) (st 6) t6 ∧ PS (lawX P w K mg base f (.ref c0) A outer s H0 E) (st 7) t7 ∧ ∀ (u : TS) (Dn : Ends) (S : Addr × List Int) (p : Addr) (y : Str) (ks : List (Str × Str)) (M : Mach) (vk vr : V) (σ : L2.St) (H : Hp), Drawn y ks M → Stt K (tabs1 PT) S p y ks M vk vr σ H → (∀ k σ' H', StD K (tabs1 PT) S p y ks M vk vr k σ' H' → u Dn σ' H') → tSeq t6 (tSeq t7 u) Dn σ H := by
  obtain ⟨R, hb, hv, D, TB, C0, C1, C2, C3, F⟩ := W
  have hr11 : Room 11 (lawX P w K mg base f (.ref c0) A outer s H0 E).A := hr
  refine ⟨_, _, ps_set (i := 9) sc_law.nd rfl (.inr rfl) (pe_op op_mulS (pv 5) (pe_op op_add pe_int (C8.pe_c C0 hr (by decide) (by rfl) (pa_cons (pv 1) (pa_cons pe_int pa_nil))))),
    ps_set (i := 10) sc_law.nd rfl (.inl rfl) (pe_ifExp (pt_cmpR op_gt (pe_lenS hb (pv 9)) pe_int (nomark _)) (pe_tup (pa_cons pe_str (pa_cons pe_int pa_nil))) pe_str), fun u Dn S p y ks M vk vr σ H dr st k => ?_⟩
  obtain ⟨y1, y2, y3, y4⟩ := seven_ok y dr.my
  have h1 := len1 y dr.my
  have hl9 : (lastS y).length + ("?" : Str).length ≤ 100000 := by
    have : ("?" : Str).length = 1 := by decide
    omega
  have lot : TxL (.tuple (ks.map kD)) ∧ lotD y (.tuple (ks.map kD)) = true := ⟨tx_kinds fun q hq => ⟨(dr.os.2.2 q hq).1, (dr.os.2.2 q hq).2.1⟩, lot_ok (by have := dr.os.1; omega) dr.os.2.1 dr.os.2.2⟩
  have ty : Tx (.str y) := fun z e => by cases e; omega
  obtain ⟨x6, x7, x8, rfl, hR, hk, hm, hT⟩ := st
  have a5 : At K [some (.ref S.1), some (.ref p), some (.str y), some vk, some vr, some (.str (lastS y)), x6, x7, x8, none, none, none, none] H 5 (.str (lastS y)) := ⟨_, rfl, .str _⟩
  refine ⟨.str (lastS y), rfl, .ref p, rfl, p, S, 3, rfl, hR, by decide, by decide, fun n H2 hn b2 R2 => ⟨8, (n : Int), rfl, rfl, lastS y, 8 + (n : Int), rfl, rfl, ?_, ?_⟩⟩
  · have z := mulok (n := 8 + n) h1 (by omega) (by omega)
    rw [show ((8 + n : Nat) : Int) = 8 + (n : Int) by omega] at z
    exact z
  have hn3 : n < 3 := by omega
  have e8 : (8 + (n : Int)) = ((8 + n : Nat) : Int) := by omega
  rw [e8]
  have ml := (muls y dr.my (8 + n) (by omega)).1
  obtain ⟨lg, elg⟩ : ∃ lg, lg = Txt.mul (lastS y) ((8 + n : Nat) : Int) := ⟨_, rfl⟩
  rw [← elg] at ml
  dsimp only [gName]
  show tSeq _ _ _ [some (.ref S.1), some (.ref p), some (.str y), some vk, some vr, some (.str (lastS y)), x6, x7, x8, some (.str (Txt.mul (lastS y) ((8 + n : Nat) : Int))), none, none, none] H2
  rw [← elg]
  refine AsKit.q_asg (K := K) (d := dueK n) (d_ifE (b := decide ((8 : Int) < (lg.length : Int))) (t_ofD (K := K) (d_cmpI (g := fun i j => decide (j < i)) (d_lenS (d_var (i := 9) ⟨_, rfl, .str lg⟩) (by omega)) (d_int (i := 8)))) (fun hb => ?_) fun hb => ?_) fun vd H3 e3 hvd => ?_
  · have z := of_decide_eq_true hb
    unfold dueK
    rw [if_pos (by omega)]
    exact d_tup (ds_cons d_str (ds_cons d_int ds_nil)) (by show 2 ≤ 100000; decide)
  · have z := of_decide_eq_false hb
    unfold dueK
    rw [if_neg (by omega)]
    exact d_str
  · have himm : imm (dueK n) = true := by unfold dueK; split <;> rfl
    refine k n _ _ ⟨x6, x7, x8, vd, hn3, by rw [elg]; rfl, R2.ex e3, dp_ex e3 (dp_tu (tu_bt hR b2) (imm_kinds ks) hk), dp_ex e3 (dp_tu (tu_bt hR b2) (imm_mach M) hm), (tabs_bt hR b2 hT).ext e3, hvd⟩
theorem r8 (W : Wo P w K mg base c g cdg c0 PT) (hr : Room 11 (A.deeper (envOfC "law" (defScope sLaw) s.heap.objs.size f (.ref c0)))) : ∃ t, PS (lawX P w K mg base f (.ref c0) A outer s H0 E) (st 8) t ∧ ∀ (Dn : Ends) (S : Addr × List Int) (p : Addr) (y : Str) (ks : List (Str × Str)) (M : Mach) (vk vr : V) (n : Nat) (σ : L2.St) (H : Hp), Drawn y ks M → StD K (tabs1 PT) S p y ks M vk vr n σ H → (∀ σ' H', StD K (tabs1 PT) S p y ks M vk vr n σ' H' → Dn.nx σ' H') → t Dn σ H := by
  obtain ⟨R, hb, hv, D, TB, C0, C1, C2, C3, F⟩ := W
  have hr11 : Room 11 (lawX P w K mg base f (.ref c0) A outer s H0 E).A := hr
  have hu : (lawX P w K mg base f (.ref c0) A outer s H0 E).A.units + 64 < cLine := by have := hr11.un; omega
  refine ⟨_, ps_if (pt_cmpR (op_neD hu) (pe_lst (pa_cons (pe_ask D (by rfl) sc_error rfl (.inl rfl) (gives_err R hb hv) hr11 (pe_lm0 (L := L_l80) TB rfl (List.mem_cons_self ..) rfl hu1 (lmS_by (show lmSB nLaw (defScope sLaw) L_l80 = true by decide +kernel)).free rfl rfl)) (pa_cons (pe_ask D (by rfl) sc_error rfl (.inl rfl) (gives_err R hb hv) hr11 (pe_lm1 (L := L_l81) TB rfl (List.mem_cons_self ..) rfl hu1 (lmS_by (show lmSB nLaw (defScope sLaw) L_l81 = true by decide +kernel)).free rfl rfl rfl)) pa_nil))) (pe_op op_rep (pe_lst (pa_cons (pv 10) pa_nil)) pe_int) rfl) (pss_one (ps_ret pe_bl)) pss_nil, fun Dn S p y ks M vk vr n σ H dr st k => ?_⟩
  obtain ⟨y1, y2, y3, y4⟩ := seven_ok y dr.my
  have h1 := len1 y dr.my
  have lot : TxL (.tuple (ks.map kD)) ∧ lotD y (.tuple (ks.map kD)) = true := ⟨tx_kinds fun q hq => ⟨(dr.os.2.2 q hq).1, (dr.os.2.2 q hq).2.1⟩, lot_ok (by have := dr.os.1; omega) dr.os.2.1 dr.os.2.2⟩
  obtain ⟨x6, x7, x8, vd, hn3, rfl, hR, hk, hm, hT, hvd⟩ := st
  have mm := muls y dr.my (8 + n) (by omega)
  obtain ⟨lg, elg⟩ : ∃ lg, lg = Txt.mul (lastS y) ((8 + n : Nat) : Int) := ⟨_, rfl⟩
  rw [← elg] at mm ⊢
  have himm : imm (dueK n) = true := by unfold dueK; split <;> rfl
  have hshp : SeqAt.shaped (.list [dueK n, dueK n]) = true := by unfold dueK; split <;> decide +kernel
  have nd : (sg y).Nodup := of_decide_eq_true (List.all_eq_true.mp nd_ok y dr.my)
  have okl : Okay (.str y) (ksD []) (.str lg) := ⟨y, lg, [], rfl, rfl, rfl, y2, by omega, y1, by omega, mm.2, by decide, List.nodup_nil, fun q hq => absurd hq List.not_mem_nil⟩
  have oke : Okay (.str y) (ksD []) (.str "") := ⟨y, "", [], rfl, rfl, rfl, y2, by omega, y1, by decide, rfl, by decide, List.nodup_nil, fun q hq => absurd hq List.not_mem_nil⟩
  refine pair_ifD (X := (lawX P w K mg base f (.ref c0) A outer s H0 E)) (c := c) (Ts := tabs1 PT) (L0 := L_l80) (L1 := L_l81) (d := dueK n) (i := 10) (vd := vd) hT rfl hvd himm ?_ ?_ hshp fun G e t => k _ _ ⟨x6, x7, x8, vd, hn3, by rw [elg], row_extN e hR, dp_extN e hk, dp_extN e hm, t, dp_extN e hvd⟩
  · unfold dueK
    split
    · exact ⟨_, l80 F, fun G Q e q => askFeL (K := K) (c := c) (y := y) (z := lg) (u := "") (ps := []) okl (by decide) rfl (.inl (by omega)) (ds_cons (d_var ⟨_, rfl, .str y⟩) (ds_cons (d_tup ds_nil (Nat.zero_le _)) (ds_cons (d_var (i := 9) ⟨_, rfl, .str _⟩) (ds_cons d_str ds_nil)))) q⟩
    · exact ⟨_, l80 F, fun G Q e q => askFe0 (K := K) (c := c) (y := y) (z := lg) (u := "") okl rfl (by omega) (by decide) y2 y4 nd (.inr ⟨rfl, by omega⟩) (ds_cons (d_var ⟨_, rfl, .str y⟩) (ds_cons (d_tup ds_nil (Nat.zero_le _)) (ds_cons (d_var (i := 9) ⟨_, rfl, .str _⟩) (ds_cons d_str ds_nil)))) q⟩
  · unfold dueK
    split
    · exact ⟨_, l81 F, fun G Q e q => askFeL (K := K) (c := c) (y := y) (z := "") (u := lg) (ps := []) oke (by omega) mm.2 (.inr (by omega)) (ds_cons (d_var ⟨_, rfl, .str y⟩) (ds_cons (d_tup ds_nil (Nat.zero_le _)) (ds_cons d_str (ds_cons (d_var (i := 9) ⟨_, rfl, .str _⟩) ds_nil)))) q⟩
    · exact ⟨_, l81 F, fun G Q e q => askFe0 (K := K) (c := c) (y := y) (z := "") (u := lg) oke mm.2 (by decide) (by omega) y2 y4 nd (.inl ⟨rfl, by omega⟩) (ds_cons (d_var ⟨_, rfl, .str y⟩) (ds_cons (d_tup ds_nil (Nat.zero_le _)) (ds_cons d_str (ds_cons (d_var (i := 9) ⟨_, rfl, .str _⟩) ds_nil)))) q⟩
theorem r9 (W : Wo P w K mg base c g cdg c0 PT) (hr : Room 11 (A.deeper (envOfC "law" (defScope sLaw) s.heap.objs.size f (.ref c0)))) : ∃ t, PS (lawX P w K mg base f (.ref c0) A outer s H0 E) (st 9) t ∧ ∀ (Dn : Ends) (S : Addr × List Int) (p : Addr) (y : Str) (ks : List (Str × Str)) (M : Mach) (vk vr : V) (n : Nat) (σ : L2.St) (H : Hp), Drawn y ks M → StD K (tabs1 PT) S p y ks M vk vr n σ H → (∀ σ' H', StD K (tabs1 PT) S p y ks M vk vr n σ' H' → Dn.nx σ' H') → t Dn σ H := by
  obtain ⟨R, hb, hv, D, TB, C0, C1, C2, C3, F⟩ := W
  have hr11 : Room 11 (lawX P w K mg base f (.ref c0) A outer s H0 E).A := hr
  have hu : (lawX P w K mg base f (.ref c0) A outer s H0 E).A.units + 64 < cLine := by have := hr11.un; omega
  refine ⟨_, ps_if (pt_cmpR (op_neD hu) (pv 10) pe_str (nomark _)) (pss_one (ps_if (pt_cmpR (op_neD hu) (pe_lst (pa_cons (pe_ask D (by rfl) sc_error rfl (.inl rfl) (gives_err R hb hv) hr11 (pe_lm0 (L := L_l90) TB rfl (List.mem_cons_self ..) rfl hu1 (lmS_by (show lmSB nLaw (defScope sLaw) L_l90 = true by decide +kernel)).free rfl rfl)) (pa_cons (pe_ask D (by rfl) sc_error rfl (.inl rfl) (gives_err R hb hv) hr11 (pe_lm1 (L := L_l91) TB rfl (List.mem_cons_self ..) rfl hu1 (lmS_by (show lmSB nLaw (defScope sLaw) L_l91 = true by decide +kernel)).free rfl rfl rfl)) pa_nil))) (pe_op op_rep (pe_lst (pa_cons (pv 10) pa_nil)) pe_int) rfl) (pss_one (ps_ret pe_bl)) pss_nil)) pss_nil, fun Dn S p y ks M vk vr n σ H dr st k => ?_⟩
  obtain ⟨y1, y2, y3, y4⟩ := seven_ok y dr.my
  have h1 := len1 y dr.my
  have lot : TxL (.tuple (ks.map kD)) ∧ lotD y (.tuple (ks.map kD)) = true := ⟨tx_kinds fun q hq => ⟨(dr.os.2.2 q hq).1, (dr.os.2.2 q hq).2.1⟩, lot_ok (by have := dr.os.1; omega) dr.os.2.1 dr.os.2.2⟩
  obtain ⟨x6, x7, x8, vd, hn3, rfl, hR, hk, hm, hT, hvd⟩ := st
  have mm := muls y dr.my (8 + n) (by omega)
  obtain ⟨lg, elg⟩ : ∃ lg, lg = Txt.mul (lastS y) ((8 + n : Nat) : Int) := ⟨_, rfl⟩
  rw [← elg] at mm ⊢
  have himm : imm (dueK n) = true := by unfold dueK; split <;> rfl
  have hshp : SeqAt.shaped (.list [dueK n, dueK n]) = true := by unfold dueK; split <;> decide +kernel
  have tst : PyData.eqv (dueK n) (.str "") = !decide (0 < n) := by
    unfold dueK
    split
    · rename_i h
      rw [decide_eq_true h]
      rfl
    · rename_i h
      rw [decide_eq_false h]
      decide +kernel
  have sh1 : SeqAt.shaped (dueK n) = true := by unfold dueK; split <;> decide +kernel
  refine Evl.s_when (b := decide (0 < n)) (t_ofD (K := K) (d_eqTo (d_neD (d_var (i := 10) ⟨vd, rfl, hvd⟩) d_str sh1 (by decide +kernel)) (by rw [tst, Bool.not_not]))) (fun hb1 H1 e1 => ?_) fun hb1 H1 e1 => k _ _ ⟨x6, x7, x8, vd, hn3, by rw [elg], hR.ex e1, dp_ex e1 hk, dp_ex e1 hm, hT.ext e1, dp_ex e1 hvd⟩
  have hn : 0 < n := of_decide_eq_true hb1
  have ed : dueK n = dueL := by unfold dueK; rw [if_pos hn]
  rw [ed] at hvd himm hshp
  have okl := okay_of (z := lg) dr (by omega) mm.2
  have wt : withinD M.y 40 (.str lg) = true := by rw [dr.oy]; exact within_of (by omega) mm.2
  have hk := dp_ex e1 hk
  have hm := dp_ex e1 hm
  have hvd := dp_ex e1 hvd
  refine pair_ifD (X := (lawX P w K mg base f (.ref c0) A outer s H0 E)) (c := c) (Ts := tabs1 PT) (L0 := L_l90) (L1 := L_l91) (d := dueL) (i := 10) (vd := vd) (hT.ext e1) rfl hvd himm ?_ ?_ hshp fun G e t => k _ _ ⟨x6, x7, x8, vd, hn3, by rw [elg], row_extN e (hR.ex e1), dp_extN e hk, dp_extN e hm, t, by rw [ed]; exact dp_extN e hvd⟩
  · exact ⟨_, l90 F, fun G Q e q => askOrL (K := K) (c := c) (M := M) (k := .tuple (ks.map kD)) (z := lg) dr.om lot.1 (by rw [dr.oy]; exact lot.2) wt (by omega) (by omega) (ds_cons (d_var ⟨_, rfl, dp_extN e hm⟩) (ds_cons (d_var ⟨_, rfl, dp_extN e hk⟩) (ds_cons (d_var (i := 9) ⟨_, rfl, .str _⟩) ds_nil))) q⟩
  · exact ⟨_, l91 F, fun G Q e q => askWaL (K := K) (c := c) (y := y) (z := lg) (u := lg) (ps := ks) okl (by omega) mm.2 (.inl (by omega)) (ds_cons (d_var ⟨_, rfl, .str y⟩) (ds_cons (d_var ⟨_, rfl, dp_extN e hk⟩) (ds_cons (d_var (i := 9) ⟨_, rfl, .str _⟩) (ds_cons (d_var (i := 9) ⟨_, rfl, .str _⟩) ds_nil)))) q⟩
theorem r1011 (W : Wo P w K mg base c g cdg c0 PT) (hr : Room 11 (A.deeper (envOfC "law" (defScope sLaw) s.heap.objs.size f (.ref c0)))) : ∃ t10 t11, PS (lawX P w K mg base f (.ref c0) A outer s H0 E) (st 10) t10 ∧ PS (lawX P w K mg base f (.ref c0) A outer s H0 E) (st 11) t11 ∧ ∀ (Dn : Ends) (S : Addr × List Int) (p : Addr) (y : Str) (ks : List (Str × Str)) (M : Mach) (vk vr : V) (n : Nat) (σ : L2.St) (H : Hp), Drawn y ks M → StD K (tabs1 PT) S p y ks M vk vr n σ H → (∀ H', Dn.rt (.bl true) H') → tSeq t10 t11 Dn σ H := by
  obtain ⟨R, hb, hv, D, TB, C0, C1, C2, C3, F⟩ := W
  have hr11 : Room 11 (lawX P w K mg base f (.ref c0) A outer s H0 E).A := hr
  have hu : (lawX P w K mg base f (.ref c0) A outer s H0 E).A.units + 64 < cLine := by have := hr11.un; omega
  refine ⟨_, _, ps_set (i := 11) sc_law.nd rfl (.inl rfl) (pe_lst (pa_cons pe_non (pa_cons (pe_tup pa_nil) (pa_cons (pe_callTy call_list_of (by rfl) (hb _ (by decide +kernel)) (by decide +kernel) (pa_cons (pv 4) pa_nil)) (pa_cons (pe_slice sl_tup (pv 4) po_none (po_some pe_int)) (pa_cons (pe_tup (pa_cons (pv 2) (pa_cons (pe_tup pa_nil) (pa_cons (pe_tup pa_nil) pa_nil)))) (pa_cons (pe_tup (pa_cons pe_str (pa_cons (pe_ix (r := rIxT K) ix_tup (pv 4) pe_int (fun _ _ => rfl)) (pa_cons (pe_ix (r := rIxT K) ix_tup (pv 4) pe_int (fun _ _ => rfl)) pa_nil)))) (pa_cons pe_int pa_nil)))))))),
    ps_ret (pe_cmpR (op_eqD hu) (pe_lcn (te := AsAskB.tAskN (tabs1 PT) (TTe c) (t_lR K c)) 12 sc_law.nd (pi_list (pv 11)) (fun _ _ _ _ _ => pts_nil) (fun _ _ _ _ _ => (AsAskB.pe_askN (T := tabs1 PT) D (by rfl) sc_error rfl (.inl rfl) (gives_err R hb hv) hr11 (pe_lm0 (L := L_lR) TB rfl (List.mem_cons_self ..) rfl hu1 (LmS.free (N := nLaw) (L := L_lR) (lmS_by (show lmSB nLaw (exS (exL (stT (st 11)))) L_lR = true by decide +kernel))) rfl rfl) (lR F))) (fun _ _ _ _ _ => pg_name (i := 12) sc_law.nd rfl (.inr rfl)) (blkOk_by (N := nLaw) (sc := defScope sLaw) (own := [("value", 12)]) (by decide +kernel)) rfl) (pe_op op_rep (pe_lst (pa_cons pe_str pa_nil)) pe_int) (nomark _)), fun Dn S p y ks M vk vr n σ H dr st k => ?_⟩
  obtain ⟨y1, y2, y3, y4⟩ := seven_ok y dr.my
  have h1 := len1 y dr.my
  have lot : TxL (.tuple (ks.map kD)) ∧ lotD y (.tuple (ks.map kD)) = true := ⟨tx_kinds fun q hq => ⟨(dr.os.2.2 q hq).1, (dr.os.2.2 q hq).2.1⟩, lot_ok (by have := dr.os.1; omega) dr.os.2.1 dr.os.2.2⟩
  obtain ⟨x6, x7, x8, vd, hn3, rfl, hR, hk, hm, hT, hvd⟩ := st
  have mm := muls y dr.my (8 + n) (by omega)
  obtain ⟨lg, elg⟩ : ∃ lg, lg = Txt.mul (lastS y) ((8 + n : Nat) : Int) := ⟨_, rfl⟩
  rw [← elg] at mm ⊢
  have himm : imm (dueK n) = true := by unfold dueK; split <;> rfl
  have hshp : SeqAt.shaped (.list [dueK n, dueK n]) = true := by unfold dueK; split <;> decide +kernel
  have a4 : At K [some (.ref S.1), some (.ref p), some (.str y), some vk, some vr, some (.str (lastS y)), x6, x7, x8, some (.str lg), some vd, none, none] H 4 M.d := ⟨vr, rfl, hm⟩
  have el : EvD K (tLst _) _ H (.list (odds M)) := d_lst (K := K) (ds_cons d_non (ds_cons (d_tup ds_nil (Nat.zero_le _)) (ds_cons (AsLot.d_listT (d_var a4)) (ds_cons (d_sl02 (d_var a4) p_none (p_some d_int)) (ds_cons (d_tup (ds_cons (d_eqTo (d_var (i := 2) ⟨_, rfl, .str y⟩) (by rw [dr.oy])) (ds_cons (d_tup ds_nil (Nat.zero_le _)) (ds_cons (d_tup ds_nil (Nat.zero_le _)) ds_nil))) (by show 3 ≤ 100000; decide)) (ds_cons (d_tup (ds_cons d_str (ds_cons (d_ixT (d_var a4) (d_int (i := 1)) rfl) (ds_cons (d_ixT (d_var a4) (d_int (i := 2)) rfl) ds_nil))) (by show 3 ≤ 100000; decide)) (ds_cons d_int ds_nil))))))) (by show 7 ≤ 100000; decide)
  refine AsKit.q_asg (K := K) el fun vo H1 e1 ho => ?_
  show tOp (rEqD K) (tLc (iList K (tVar 11)) (gName 12) tYes (AsAskB.tAskN (tabs1 PT) (TTe c) (t_lR K c)) [12]) (tOp rRep (tLst (tCons (tC (.str "BadReader")) tNil)) (tC (.int 7))) [some (.ref S.1), some (.ref p), some (.str y), some vk, some vr, some (.str (lastS y)), x6, x7, x8, some (.str lg), some vd, some vo, none] H1 Dn.rt
  show tLc (iList K (tVar 11)) (gName 12) tYes (AsAskB.tAskN (tabs1 PT) (TTe c) (t_lR K c)) [12] [some (.ref S.1), some (.ref p), some (.str y), some vk, some vr, some (.str (lastS y)), x6, x7, x8, some (.str lg), some vd, some vo, none] H1 _
  refine AsAskB.lc_asks (K := K) (σ := [some (.ref S.1), some (.ref p), some (.str y), some vk, some vr, some (.str (lastS y)), x6, x7, x8, some (.str lg), some vd, some vo, none]) (T := tabs1 PT) (TT := TTe c) (t := t_lR K c) (wd := .str "BadReader") (ds := odds M) (d_var (i := 11) ⟨vo, rfl, ho⟩) (hT.ext e1) (by show 7 ≤ 1000; decide) (fun d hd v G e t hv Q q => ?_) fun p2 G e t hp => ?_
  · have od := odds_ok (M := M) (by rw [dr.oy]; exact y1) (by rw [dr.oy]; exact y4) d hd
    exact askOr (K := K) (c := c) (C := c.cR) (wd := "BadReader") (.inl ⟨rfl, od.1, od.2⟩) (by simp [prs]) (ds_cons (d_var (i := 12) ⟨v, rfl, hv⟩) (ds_cons d_non (ds_cons d_non ds_nil))) fun H' e' => q H' (ExtN.of e') (t.ext e')
  · refine ⟨Evl.sz_of (by show 1 ≤ 100000; decide), fun l2 nl2 => ?_⟩
    have xU : Ex G (upd G l2 (.lst [.str "BadReader"])) := Ex.new nl2
    refine ⟨l2, 7, [.str "BadReader"], rfl, rfl, upd_same, by decide, by decide, by show 1 * 7 ≤ sizeLine; decide, fun l3 nl3 => ?_⟩
    have xW : Ex (upd G l2 (.lst [.str "BadReader"])) (upd (upd G l2 (.lst [.str "BadReader"])) l3 (.lst (List.replicate (7 : Int).toNat [V.str "BadReader"]).flatten)) := Ex.new nl3
    have hd7 : ∀ G' : Hp, DpAll K G' (List.replicate 7 (V.str "BadReader")) (List.replicate 7 (PyData.str "BadReader")) := fun G' => .cons (.str _) (.cons (.str _) (.cons (.str _) (.cons (.str _) (.cons (.str _) (.cons (.str _) (.cons (.str _) .nil))))))
    have hsh : SeqAt.shaped (.list (List.replicate 7 (PyData.str "BadReader"))) = true := by decide +kernel
    refine ⟨.list (List.replicate 7 (.str "BadReader")), .list (List.replicate 7 (.str "BadReader")), .lst (Evl.sq_of (xW _ _ (xU _ _ hp))) (hd7 _), .lst (Evl.sq_of upd_same) (hd7 _), hsh, hsh, ?_⟩
    rw [SeqAt.eqv_refl _ (SeqAt.canLay_of_shaped hsh)]
    exact k _
end
end K14

set_option maxHeartbeats 4000000
set_option autoImplicit false
/-! the law. -/
namespace K14
open PySem PySem.Spec PyProof.Rows L2 AsSort AsKit AsToo AsTry AsAct AsLcC AsLoose
open Evl (Ex Ev EvT EvA)
open LamX (ExtN TabB lamCx)
open NdefX (TabsN TabN NTab)
section
variable {P : Program} {w : World} {K : PySem.W.Frag} {mg : Str → Option Value} {base : Heap} {c : Cs} {c0 PT g : Addr} {cdg : Value}
def spLaw (K : PySem.W.Frag) (Ts : List NTab) : Sp := fun vs H Q _ => ∃ (a : Addr) (ns : List Int), vs = [.ref a] ∧ SqL K H a (ns.map V.int) ∧ TabsN Ts H ∧ ∀ H', Q (.bl true) H'
theorem body_is : defBody sLaw = [st 0, st 1, st 2, st 3, st 4, st 5, st 6, st 7, st 8, st 9, st 10, st 11] := by kernel_rfl
theorem ok_law {f0 : Addr} {fd0 : FuncData} (F0 : FunD K "law" "law" (defArgs sLaw) (defBody sLaw) (defScope sLaw) [] [] f0 fd0) (hc : fd0.code = .ref c0) (W : Wo P w K mg base c g cdg c0 PT) : FnOk P w K mg base C8.CX0 12 f0 fd0 ["script"] (spLaw K (tabs1 PT)) := by
  obtain ⟨oc, od, dV, kV, doc, pm, an, cdv, ct, osl, rfl, lk, hcd, _, _⟩ := F0.ex
  have e : cdv = .ref c0 := hc
  subst e
  refine fn_of lk hcd sc_law (fun vs H Q E ⟨a, ns, h, _⟩ => by rw [h]; rfl) fun A outer s H vs Q E hr h => ?_
  obtain ⟨a0, ns, rfl, hS, hT, q⟩ := h
  obtain ⟨t0, t1, t2, p0, p1, p2, k012⟩ := r012 (H0 := H) (E := E) (outer := outer) W hr
  obtain ⟨t3, p3, k3⟩ := r3 (H0 := H) (E := E) (outer := outer) W hr
  obtain ⟨t4, p4, k4⟩ := r4 (H0 := H) (E := E) (outer := outer) W hr
  obtain ⟨t5, p5, k5⟩ := r5 (H0 := H) (E := E) (outer := outer) W hr
  obtain ⟨t6, t7, p6, p7, k67⟩ := r67 (H0 := H) (E := E) (outer := outer) W hr
  obtain ⟨t8, p8, k8⟩ := r8 (H0 := H) (E := E) (outer := outer) W hr
  obtain ⟨t9, p9, k9⟩ := r9 (H0 := H) (E := E) (outer := outer) W hr
  obtain ⟨t10, t11, p10, p11, k1011⟩ := r1011 (H0 := H) (E := E) (outer := outer) W hr
  refine ⟨(tSeq t0 (tSeq t1 (tSeq t2 (tSeq t3 (tSeq t4 (tSeq t5 (tSeq t6 (tSeq t7 (tSeq t8 (tSeq t9 (tSeq t10 t11))))))))))), ?_, ?_⟩
  · rw [body_is]
    exact PSs.nox (pss_cons p0 (pss_cons p1 (pss_cons p2 (pss_cons p3 (pss_cons p4 (pss_cons p5 (pss_cons p6 (pss_cons p7 (pss_cons p8 (pss_cons p9 (pss_cons p10 (pss_one p11))))))))))))
  refine k012 _ _ a0 ns H hS hT fun p y ks M vk vr σ1 H1 dr s1 => ?_
  refine k3 _ (a0, ns) p y ks M vk vr σ1 H1 dr s1 fun σ3 H3 s3 => ?_
  refine k4 _ (a0, ns) p y ks M vk vr σ3 H3 dr s3 fun σ4 H4 s4 => ?_
  refine k5 _ (a0, ns) p y ks M vk vr σ4 H4 dr s4 fun σ5 H5 s5 => ?_
  refine k67 _ _ (a0, ns) p y ks M vk vr σ5 H5 dr s5 fun n σ6 H6 s6 => ?_
  refine k8 _ (a0, ns) p y ks M vk vr n σ6 H6 dr s6 fun σ8 H8 s8 => ?_
  refine k9 _ (a0, ns) p y ks M vk vr n σ8 H8 dr s8 fun σ9 H9 s9 => ?_
  exact k1011 _ (a0, ns) p y ks M vk vr n σ9 H9 dr s9 q
end
end K14

set_option maxHeartbeats 4000000
set_option autoImplicit false
namespace K14
open PySem PySem.Spec PyProof.Rows L2 AsSort AsKit AsToo AsObj AsTry AsAct AsLcC AsLoose
open Evl (Ex Ev EvT EvA)
open LamX (ExtN TabB lamCx)
open NdefX (TabsN TabN NTab NScope nscope_by NF startF ncx)
/-! the class TooLong: what the head must tell of it. -/
abbrev initS : Stmt := (clsB (top 5)).getD 0 noS
theorem too_fn {P : Program} {w : World} {K : PySem.W.Frag} {mg : Str → Option Value} {base : Heap} {CX : CXT} {C f cc cda : Addr} {dV kV doc pm ct oc : Value} {an od : Option Addr} {osl : Array (Option Value)} (F : SupF P K mg C f cc cda "TooLong.__init__")
    (lk : K.lookup f = some ⟨oc, od, .func (PySem.W.ksFn "__init__" "TooLong.__init__" (defArgs initS) (defBody initS) (defScope initS) dV kV doc pm an (.ref cda) ct cc), osl⟩) (hno : PySem.W.findIn K (.ref C) "most" = some none) :
    FnOk P w K mg base CX 1 f (PySem.W.ksFn "__init__" "TooLong.__init__" (defArgs initS) (defBody initS) (defScope initS) dV kV doc pm an (.ref cda) ct cc) ["self", "most"] (spToo K C) := by
  refine fnok_too (tj := fun _ => tC .non) F lk (nscope_by (by decide +kernel)) rfl rfl hno (fun A outer s H E m hm => ⟨_, pe_joined (.cons pe_str (.cons (pe_fmt (pv 1)) (.cons pe_str .nil))), fun e G Q q => ?_⟩) (fun _ => rfl)
  have hz := sizeLine_eq
  have hl := PyProof.Rows.int_text_len_1921 (i := m) (by omega)
  have e0 : Str.empty.length = 0 := by decide
  have e1 : ("more than " : Str).length = 10 := by decide
  have e2 : (" letters" : Str).length = 8 := by decide
  refine ⟨_, rfl, by rw [add_len, e0, e1]; omega, ?_⟩
  refine ⟨.int m, rfl, .inr ⟨m, rfl, by omega, _, rfl, by rw [add_len, add_len, e0, e1]; omega, ?_⟩⟩
  exact ⟨_, rfl, by rw [add_len, add_len, add_len, e0, e1, e2]; omega, q _⟩
end K14

set_option maxHeartbeats 0
set_option autoImplicit false
namespace K14
open PySem PySem.Spec PyProof.Rows L2 AsSort AsKit AsToo AsObj AsTry AsAct AsLcC AsLoose
open Evl (Ex Ev EvT EvA)
open LamX (ExtN TabB lamCx)
open NdefX (TabsN TabN NTab NScope nscope_by NF startF ncx)
/-! the head: what the top leaves -/
def mkD (x : Str) (st : Stmt) : He.DefD := ⟨(x, none), x, x, defArgs st, defBody st, defScope st, [], []⟩
def mkM (m q : Str) (st : Stmt) : He.DefD := ⟨("Follower", some m), m, q, defArgs st, defBody st, defScope st, [], []⟩
def fn0 : List He.DefD := [mkD "is_integer" sIsInteger, mkD "is_letters" sIsLetters, mkD "is_text" sIsText, mkD "is_text_within" sIsTextWithin, mkD "is_kind" sIsKind, mkD "is_lot" sIsLot, mkD "check_letters" sCheckLetters, mkD "check_text" sCheckText, mkD "check_kinds" sCheckKinds, mkD "is_row" sIsRow, mkD "is_reader" sIsReader, mkD "check_reader" sChkReader, mkD "loose_line" sLine, mkD "beginnings" sBegin, mkD "rows_through" sThru, mkD "rows_joined" sJoined, mkD "rows_of_texts" sRowsOf, mkD "spread_once" sSpr, mkD "spread" sSpread, mkD "is_said" sSaid, mkD "ways_counted" sCounted, mkD "check_led" sLed, mkD "check_texts_of" sTextsOf, mkD "ways_between" sBetween, mkD "fewest" sFewest, mkD "way" sWay, mkD "origin" sOrigin, mkD "leads" sLeads]
def fn1 : List He.DefD := [mkD "_law_taken" sTaken, mkD "_law_pick" sPick, mkD "_law_letters" sLetters, mkD "_law_text" sText, mkD "_law_kinds" sKinds, mkD "_law_reader" sReader, mkD "_law_error" sError, mkD "law" sLaw, mkM "__init__" "Follower.__init__" (fm 0), mkM "behind_part" "Follower.behind_part" (fm 1), mkM "behind" "Follower.behind" (fm 2)]
def fn : List He.DefD := fn0 ++ fn1
def fa0 : List He.Fa := [.glo "is_integer", .glo "is_letters", .glo "is_text", .glo "is_text_within", .glo "is_kind", .glo "is_lot", .glo "check_letters", .glo "check_text", .glo "check_kinds", .glo "is_row", .glo "is_reader", .glo "check_reader", .glo "loose_line", .glo "beginnings", .glo "rows_through", .glo "rows_joined", .glo "rows_of_texts", .glo "spread_once", .glo "spread", .glo "is_said", .glo "ways_counted", .glo "check_led", .glo "check_texts_of", .glo "ways_between", .glo "fewest", .glo "way", .glo "origin", .glo "leads"]
def fa1 : List He.Fa := [.glo "_law_taken", .glo "_law_pick", .glo "_law_letters", .glo "_law_text", .glo "_law_kinds", .glo "_law_reader", .glo "_law_error", .glo "law", .free "isinstance", .free "int", .free "bool", .free "str", .free "tuple", .free "list", .free "dict", .free "len", .free "range", .free "all", .free "any", .free "set", .free "sorted", .free "super", .free "ValueError", .free "zip", .free "enumerate", .int "MOST_LETTERS" 4, .int "LONGEST_TEXT" 40, .int "LONGEST_LEFT" 3]
def fa2 : List He.Fa := [.int "LONGEST_RIGHT" 1, .int "MOST_KINDS" 12, .int "MOST_STANDS" 200, .int "PART" 8, .int "FULL_PART" 255, .int "LONGEST_LED" 8, .glo "BadLetters", .glo "BadKinds", .glo "BadText", .glo "TooLong", .glo "BadReader", .glo "ScribeError", .glo "Follower", .exc "BadLetters", .exc "BadKinds", .exc "BadText", .exc "BadReader", .exm "BadLetters" "BadLetters" true, .exm "BadKinds" "BadLetters" false, .exm "BadKinds" "BadKinds" true, .exm "BadText" "BadLetters" false, .exm "BadText" "BadKinds" false, .exm "BadText" "BadText" true, .exm "TooLong" "BadLetters" false, .exm "TooLong" "BadKinds" false, .exm "TooLong" "BadText" false, .exm "TooLong" "TooLong" true, .exm "BadReader" "BadLetters" false]
def fa3 : List He.Fa := [.exm "BadReader" "BadKinds" false, .exm "BadReader" "BadText" false, .exm "BadReader" "TooLong" false, .exm "BadReader" "BadReader" true, .noat "TooLong" "most", .code ("TooLong", some "__init__") "TooLong.__init__", .cls "Follower", .noat "Follower" "rows", .noat "Follower" "kept", .mkr "Follower", .meth "Follower" "behind_part", .meth "Follower" "behind"]
def fa : List He.Fa := fa0 ++ fa1 ++ fa2 ++ fa3
def loose0 : List Str := ["ScribeError", "BadLetters", "BadText", "BadKinds", "TooLong", "BadReader", "TooMany", "NoWay", "MOST_LETTERS", "LONGEST_TEXT", "LONGEST_LEFT", "LONGEST_RIGHT", "MOST_KINDS", "is_integer", "is_letters", "is_text", "is_text_within", "is_kind", "is_lot", "check_letters", "check_text", "check_kinds", "MOST_STANDS", "explored", "empty_lists", "sources_of", "halves", "grouped"]
def loose1 : List Str := ["part_class", "classes_of", "shrunk", "PART", "FULL_PART", "lot_where", "stands_of", "Follower", "is_hopeless", "steps_of", "loose_reader", "loose_line", "beginnings", "rows_through", "rows_joined", "rows_of_texts", "spread_once", "spread", "is_said", "is_row", "is_reader", "check_reader", "reached", "least_of", "text_behind", "is_deed_on", "Table", "lot_behind"]
def loose2 : List Str := ["enter_joined", "Counts", "READ", "DEED", "TEXT", "LETTER", "GOAL", "ways_counted", "last_stand", "parted", "parts_of_made", "parts_of_text", "parts_of_letter", "parts_of_goal", "parts_of", "trail_of", "LONGEST_LED", "check_led", "check_texts_of", "ways_between", "fewest", "way", "origin", "leads", "_law_taken", "_law_pick", "_law_letters", "_law_text"]
def loose3 : List Str := ["_law_kinds", "_law_reader", "_law_error"]
def loose : List Str := loose0 ++ loose1 ++ loose2 ++ loose3
abbrev Rw : PySem.W.OpenRow := PySem.W.OpenLaw.row PySem.Challenge.rw_anyscribe_k14_ways_refused
abbrev Pg : Program := PySem.Challenge.rw_anyscribe_k14_ways_refused.prog
def tf : List He.Defn := [("law", none)]
/-! the classes with a field, their __init__, the cell and the code object of that -/
abbrev pI (x : Str) : Str × Option Str := (x, some "__init__")
def cM (K : PySem.W.Frag) (x : Str) : Addr := He.ga K x
def fI (K : PySem.W.Frag) (x : Str) : Addr := He.fAd K (pI x)
def cellOf (K : PySem.W.Frag) (x : Str) : Addr := match K.lookup (fI K x) with
  | some ⟨_, _, .func fd, _⟩ => (match fd.closure with
    | [q] => q.2
    | _ => 0)
  | _ => 0
abbrev FnZ : Type := Option (Str × Str × Arguments × FuncBody × Scope × Addr × List Str × Value × Addr)
def fnZ (K : PySem.W.Frag) (x : Str) : FnZ := match K.lookup (fI K x) with
  | some ⟨_, _, .func fd, _⟩ => some (fd.name, fd.qualname, fd.params, fd.body, fd.scope, fd.globals, fd.closure.map (·.1), fd.defaults, fd.builtins)
  | _ => none
def valZ (q : Str) (st : Stmt) : FnZ := some ("__init__", q, defArgs st, .stmts (defBody st), defScope st, mainGlobals, ["__class__"], .none, builtinsNs)
def oexB (K : PySem.W.Frag) (C : Addr) : Bool := (match K.lookup C with
  | some ⟨.type c, _, .cls cd, sl⟩ => decide (c = "type") && (match cd.mro, sl.toList with
    | .ref C' :: bm, [_, _, _, _, some (.builtin n), _] => decide (C' = C) && (decide (n = "ValueError.__new__") && (!cd.hasDel && (cd.hasDict && PySem.HandSPX.refsVE bm)))
    | _, _ => false)
  | _ => false) && (He.eqO (PySem.W.findIn K (.ref C) "__setattr__") (some (some (.builtin "object.__setattr__"))) && (decide (PySem.W.subIn K (.ref C) (.type "BaseException") = some true) && (decide (PySem.W.typeIn K (.ref C) = some (.type "type")) && PySem.W.keepIn K (.ref C))))
theorem oexB_ok {K : PySem.W.Frag} {C : Addr} (h : oexB K C = true) : OexC K C := by
  unfold oexB at h
  obtain ⟨h1, h⟩ := He.ba h
  obtain ⟨h2, h⟩ := He.ba h
  obtain ⟨h3, h⟩ := He.ba h
  obtain ⟨h4, h5⟩ := He.ba h
  refine ⟨?_, He.eqO_ok h2, of_decide_eq_true h3, of_decide_eq_true h4, h5⟩
  split at h1
  · rename_i c dd cd sl ho
    obtain ⟨hc, h1⟩ := He.ba h1
    split at h1
    · rename_i C' bm k0 k1 k2 k3 n k5 hm hs
      obtain ⟨q1, h1⟩ := He.ba h1
      obtain ⟨q2, h1⟩ := He.ba h1
      obtain ⟨q3, h1⟩ := He.ba h1
      obtain ⟨q4, q5⟩ := He.ba h1
      have e1 := of_decide_eq_true q1
      have e2 := of_decide_eq_true q2
      have e0 := of_decide_eq_true hc
      obtain ⟨nm, bs, mro, ns, qn, hd, sn, sub, ab, col, del⟩ := cd
      dsimp only at hm q3 q4
      have e3 : del = false := by simpa using q3
      have hsl : sl = #[k0, k1, k2, k3, some (.builtin n), k5] := by
        obtain ⟨l⟩ := sl
        simp only at hs
        rw [hs]
      subst e0 e1 e2 hm q4 e3 hsl
      exact ⟨nm, qn, ns, bs, bm, sn, sub, ab, col, dd, k0, k1, k2, k3, k5, ho, q5⟩
    · cases h1
  · cases h1
def fileB (K : PySem.W.Frag) (c : Addr) : Bool := match K.lookup c with
  | some ⟨_, _, .fields vs, _⟩ => (match (vs[2]? : Option Value) with
    | some (Value.str file _) => (Pg.main.file : Str) == file
    | _ => false)
  | _ => false
theorem fileB_ok {K : PySem.W.Frag} {c : Addr} (h : fileB K c = true) : ∃ (ccl : Value) (cdd : Option Addr) (vs : Array Value) (ccs : Array (Option Value)) (file : Str) (tf : Tok), K.lookup c = some ⟨ccl, cdd, .fields vs, ccs⟩ ∧ vs[2]? = some (.str file tf) ∧ ((Pg.main.file : Str) == file) = true := by
  unfold fileB at h
  split at h
  · rename_i ccl cdd vs ccs ho
    split at h
    · rename_i file tf hv
      exact ⟨ccl, cdd, vs, ccs, file, tf, ho, hv, h⟩
    · cases h
  · cases h
def cellB (K : PySem.W.Frag) (c C : Addr) : Bool := match K.lookup c with
  | some ⟨_, _, .cell (some (.ref D)), _⟩ => decide (D = C)
  | _ => false
theorem cellB_ok {K : PySem.W.Frag} {c C : Addr} (h : cellB K c C = true) : ∃ (cl : Value) (cld : Option Addr) (csl : Array (Option Value)), K.lookup c = some ⟨cl, cld, .cell (some (.ref C)), csl⟩ := by
  unfold cellB at h
  split at h
  · rename_i cl cld D csl ho
    have e := of_decide_eq_true h
    subst e
    exact ⟨cl, cld, csl, ho⟩
  · cases h
def someB (K : PySem.W.Frag) (C : Addr) : Bool := (PySem.W.clsIn K C).isSome
def ex1 (K : PySem.W.Frag) (x q : Str) : Bool := oexB K (cM K x) && (PySem.W.codeIn K (.ref (He.codeOf K (pI x))) q && (fileB K (He.codeOf K (pI x)) && (cellB K (cellOf K x) (cM K x) && someB K (cM K x))))
def ex2 (K : PySem.W.Frag) (x : Str) : Bool := decide (PySem.W.mroIn K (cM K x) (.ref (cM K x)) = some true) && (He.eqO (PySem.W.ks_superIn K (cM K x) (cM K x) "__init__") (some (some (.builtin "ValueError.__init__"))) && (He.eqO (PySem.W.nsIn K cStatics "thirdparty.any") (some none) && decide (PySem.W.subIn K (.ref (cM K x)) (.type "ValueError") = some true)))
def ex3 (K : PySem.W.Frag) (x : Str) : Bool := He.eqO (PySem.W.findIn K (.ref (cM K x)) "__init__") (some (some (.ref (fI K x)))) && (decide (PySem.W.typeIn K (.ref (fI K x)) = some (.type "function")) && (decide (PySem.W.kitCls K (.ref (cM K x)) (.type "ValueError") = some true) && xfB K (cM K x)))
def exC (K : PySem.W.Frag) (x q : Str) : Bool := ex1 K x q && (ex2 K x && ex3 K x)
def exB (K : PySem.W.Frag) : Bool := exC K "TooLong" "TooLong.__init__"
/-! the hook -/
def nms0 : List Str := ["is_integer", "is_letters", "is_text", "is_text_within", "is_kind", "is_lot", "check_letters", "check_text", "check_kinds", "is_row", "is_reader", "check_reader", "loose_line", "beginnings", "rows_through", "rows_joined", "rows_of_texts", "spread_once", "spread", "is_said", "ways_counted", "check_led", "check_texts_of", "ways_between", "fewest", "way", "origin", "leads"]
def nms1 : List Str := ["_law_taken", "_law_pick", "_law_letters", "_law_text", "_law_kinds", "_law_reader", "_law_error", "law", "BadLetters", "BadKinds", "BadText", "TooLong", "BadReader", "ScribeError", "Follower"]
def nms : List Str := nms0 ++ nms1
def asFrom (g : Addr → Option Obj) (st : List Addr) : Nat → List Addr
  | 0 => st
  | n + 1 => He.growD g (asFrom g st n)
def asY (g : Addr → Option Obj) : List Addr := mainGlobals :: asFrom g (nms.map fun x => He.ga (He.frG g [mainGlobals]) x) 4
def frY (g : Addr → Option Obj) : PySem.W.Frag := He.frT g (cStatics :: asY g)
abbrev AlY : Type := (He.AlT × FnZ) × Bool
def obsY (g : Addr → Option Obj) : AlY := ((He.obsT fa fn [] (frY g), fnZ (frY g) "TooLong"), exB (frY g) && He.tabsB g tf (frY g))
def valY (w : World) : AlY := ((He.valT fn [] w, valZ "TooLong.__init__" initS), true)
structure SaysY (w : World) (h : Heap) (K : PySem.W.Frag) : Prop where
  t : He.SaysT fa fn [] w K
  z : fnZ K "TooLong" = valZ "TooLong.__init__" initS
  more : exB K = true
  hd : ∀ p ∈ tf, PySem.W.codeHdIn K (He.cT K p).1 (He.cT K p).2 = true
  out : ∀ p ∈ tf, K.lookup (He.cT K p).2 = none
  empty : ∀ p ∈ tf, h.get? (He.cT K p).2 = some { cls := .none, data := .fields #[] }
theorem saysY_of {w : World} {h : Heap} (e : obsY h.get? = valY w) : SaysY w h (frY h.get?) := by
  have e1 : He.obsT fa fn [] (frY h.get?) = He.valT fn [] w := congrArg (fun z : AlY => z.1.1) e
  have e2 : fnZ (frY h.get?) "TooLong" = valZ "TooLong.__init__" initS := congrArg (fun z : AlY => z.1.2) e
  have e3 : (exB (frY h.get?) && He.tabsB h.get? tf (frY h.get?)) = true := congrArg (fun z : AlY => z.2) e
  obtain ⟨b1, b2⟩ := He.ba e3
  have look : ∀ p ∈ tf, ∃ o, h.get? (He.cT (frY h.get?) p).2 = some o ∧ He.emptyTab o = true := fun p hp => by
    obtain ⟨_, u⟩ := He.ba (List.all_eq_true.mp b2 p hp)
    split at u
    · rename_i o ho
      exact ⟨o, ho, u⟩
    · cases u
  refine ⟨e1, e2, b1, fun p hp => (He.ba (List.all_eq_true.mp b2 p hp)).1, fun p hp => ?_, fun p hp => ?_⟩
  · obtain ⟨o, ho, u⟩ := look p hp
    exact He.frT_none ho u
  · obtain ⟨o, ho, u⟩ := look p hp
    rw [ho, He.emptyTab_eq u]
def hk : PySem.W.Hook where
  α := AlY
  obs := fun s => obsY s.heap.get?
  val := fun w => valY w
  says := fun w h => ∃ K : PySem.W.Frag, K.In h ∧ SaysY w h K
  of := fun _ _ e => ⟨_, He.frT_in, saysY_of e⟩
  keeps := fun _ _ _ ⟨K, hK, c⟩ k => ⟨K, PySem.W.Frag.In.keeps hK k, ⟨c.t, c.z, c.more, c.hd, c.out, fun p hp => k _ _ (c.empty p hp)⟩⟩
def ob (s : PySem.W.SharedT) : AlY := obsY (HandSHeadRun.getT s)
theorem ob_eq (s : PySem.W.SharedT) : ob s = hk.obs s.abs := by
  have e : HandSHeadRun.getT s = s.abs.heap.get? := funext (HandSHeadRun.getT_eq s)
  show obsY (HandSHeadRun.getT s) = obsY s.abs.heap.get?
  rw [e]
abbrev Vw : Program := PySem.W.view Rw.prog [98]
section
open PySem.W PySem.Calls HandSHeadRun

theorem run (w : World) : RunEq Rw Vw hk ob 9000 loose w := by
  intro os
  kernel_rfl
end
end K14

set_option maxHeartbeats 0
set_option autoImplicit false
namespace K14
open PySem PySem.Spec PyProof.Rows L2 AsSort AsKit AsToo AsObj AsTry AsAct AsLcC AsLoose
open Evl (Ex Ev EvT EvA)
open LamX (ExtN TabB lamCx)
open NdefX (TabsN TabN NTab NScope nscope_by NF startF ncx)
section
variable {w : World} {K : PySem.W.Frag} {mg : Str → Option Value} {h : Heap}
theorem df_of (X : K.In h) (G : h.Ns mainGlobals mg) (c : He.SaysD fa fn K) (x : Str) (st : Stmt) (h1 : mkD x st ∈ fn) (h2 : He.Fa.glo x ∈ fa) : Df K mg x st := by
  obtain ⟨fd, F⟩ := c.defs h1
  exact ⟨_, fd, F, He.glo_ok X G (c.facts h2)⟩
theorem bl_of (X : K.In h) (G : h.Ns mainGlobals mg) (c : He.SaysD fa fn K) : Bl mg := fun x hx => by
  have h2 : ∀ x ∈ blts, He.Fa.free x ∈ fa := by
    intro x hx
    simp only [blts, List.mem_cons, List.not_mem_nil, or_false] at hx
    rcases hx with rfl | rfl | rfl | rfl | rfl | rfl | rfl | rfl | rfl | rfl | rfl | rfl | rfl
    · exact (List.mem_of_getElem? (i := 36) rfl)
    · exact (List.mem_of_getElem? (i := 37) rfl)
    · exact (List.mem_of_getElem? (i := 38) rfl)
    · exact (List.mem_of_getElem? (i := 39) rfl)
    · exact (List.mem_of_getElem? (i := 40) rfl)
    · exact (List.mem_of_getElem? (i := 41) rfl)
    · exact (List.mem_of_getElem? (i := 42) rfl)
    · exact (List.mem_of_getElem? (i := 43) rfl)
    · exact (List.mem_of_getElem? (i := 44) rfl)
    · exact (List.mem_of_getElem? (i := 45) rfl)
    · exact (List.mem_of_getElem? (i := 46) rfl)
    · exact (List.mem_of_getElem? (i := 47) rfl)
    · exact (List.mem_of_getElem? (i := 48) rfl)
  exact He.free_ok X G (c.facts (h2 x hx))
theorem gn_of (X : K.In h) (G : h.Ns mainGlobals mg) (c : He.SaysD fa fn K) (x : Str) (n : Int) (h2 : He.Fa.int x n ∈ fa) : Gn mg x n := by
  obtain ⟨t, e⟩ := He.int_ok X G (c.facts h2)
  exact ⟨_, e, ⟨t, rfl⟩⟩
theorem dfc_of (X : K.In h) (G : h.Ns mainGlobals mg) (c : He.SaysD fa fn K) (x : Str) (st : Stmt) (h1 : mkD x st ∈ fn) (h2 : He.Fa.glo x ∈ fa) : Dfc K mg x st (He.codeOf K (x, none)) := by
  obtain ⟨fd, F⟩ := c.defs h1
  refine ⟨_, fd, F, He.glo_ok X G (c.facts h2), ?_⟩
  obtain ⟨oc, od, dV, kV, doc, pm, an, cdv, ct, osl, rfl, lk, hcd, _, _⟩ := F.ex
  obtain ⟨c0, rfl⟩ := He.codeIn_ref hcd
  exact congrArg Value.ref (He.codeOf_eq (p := (x, none)) lk rfl).symm
theorem ec_of (X : K.In h) (G : h.Ns mainGlobals mg) (c : He.SaysD fa fn K) (x : Str) (h1 : He.Fa.glo x ∈ fa) (h2 : He.Fa.exc x ∈ fa) : Ec K mg x (He.ga K x) := by
  obtain ⟨a1, a2, a3, a4⟩ := He.exc_ok (c.facts h2)
  exact ⟨He.glo_ok X G (c.facts h1), a1, a2, a3, a4⟩
theorem too_lk {x q : Str} {st : Stmt} (z : fnZ K x = valZ q st) (hcode : (He.Fa.code (pI x) q).ok K = true) : ∃ (oc : Value) (od : Option Addr) (osl : Array (Option Value)) (kV doc pm ct : Value) (an : Option Addr),
    K.lookup (fI K x) = some ⟨oc, od, .func (PySem.W.ksFn "__init__" q (defArgs st) (defBody st) (defScope st) .none kV doc pm an (.ref (He.codeOf K (pI x))) ct (cellOf K x)), osl⟩ := by
  have c2 : (match K.lookup (fI K x) with
    | some ⟨_, _, .func fd, _⟩ => PySem.W.codeIn K fd.code q
    | _ => false) = true := hcode
  unfold fnZ at z
  cases qq : K.lookup (fI K x) with
  | none =>
    rw [qq] at c2
    cases c2
  | some o =>
    obtain ⟨oc, od, dt, osl⟩ := o
    rw [qq] at c2 z
    cases dt with
    | func fd =>
      obtain ⟨n1, n2, n3, n4, n5, n6, n7, n8, n9, n10, n11, n12, n13, n14, n15⟩ := fd
      have c3 : PySem.W.codeIn K n13 q = true := c2
      obtain ⟨cda, rfl⟩ := He.codeIn_ref c3
      have ec : He.codeOf K (pI x) = cda := He.codeOf_eq (p := pI x) qq rfl
      have e2 : (some (n1, n2, n3, n4, n5, n6, n7.map (·.1), n8, n15) : FnZ) = some (("__init__" : Str), q, defArgs st, FuncBody.stmts (defBody st), defScope st, mainGlobals, [("__class__" : Str)], Value.none, builtinsNs) := z
      simp only [Option.some.injEq, Prod.mk.injEq] at e2
      obtain ⟨h1, h2, h3, h4, h5, h6, h7, h8, h9⟩ := e2
      match n7, h7, qq with
      | [], h7, _ => exact absurd (congrArg List.length h7) (by simp)
      | _ :: _ :: _, h7, _ => exact absurd (congrArg List.length h7) (by simp)
      | [(a, cc)], h7, qq =>
        have ha : a = "__class__" := (List.cons.inj h7).1
        have el : cellOf K x = cc := by
          unfold cellOf
          rw [qq]
        subst h1 h2 h3 h4 h5 h6 h8 h9 ha
        rw [ec, el]
        exact ⟨oc, od, osl, n9, n10, n11, n14, n12, rfl⟩
    | _ => cases c2
theorem et_of {base : Heap} (X : K.In h) (G : h.Ns mainGlobals mg) (c : He.SaysD fa fn K) (z : fnZ K "TooLong" = valZ "TooLong.__init__" initS) (m : exC K "TooLong" "TooLong.__init__" = true) : Et Pg w K mg base "TooLong" (cM K "TooLong") := by
  obtain ⟨m1, m⟩ := He.ba (show (ex1 K "TooLong" "TooLong.__init__" && (ex2 K "TooLong" && ex3 K "TooLong")) = true from m)
  obtain ⟨m2, m3⟩ := He.ba m
  obtain ⟨a1, m1⟩ := He.ba (show (oexB K (cM K "TooLong") && (PySem.W.codeIn K (.ref (He.codeOf K (pI "TooLong"))) "TooLong.__init__" && (fileB K (He.codeOf K (pI "TooLong")) && (cellB K (cellOf K "TooLong") (cM K "TooLong") && someB K (cM K "TooLong"))))) = true from m1)
  obtain ⟨a2, m1⟩ := He.ba m1
  obtain ⟨a3, m1⟩ := He.ba m1
  obtain ⟨a4, a5⟩ := He.ba m1
  obtain ⟨b1, m2⟩ := He.ba (show (decide (PySem.W.mroIn K (cM K "TooLong") (.ref (cM K "TooLong")) = some true) && (He.eqO (PySem.W.ks_superIn K (cM K "TooLong") (cM K "TooLong") "__init__") (some (some (.builtin "ValueError.__init__"))) && (He.eqO (PySem.W.nsIn K cStatics "thirdparty.any") (some none) && decide (PySem.W.subIn K (.ref (cM K "TooLong")) (.type "ValueError") = some true)))) = true from m2)
  obtain ⟨b2, m2⟩ := He.ba m2
  obtain ⟨b3, b4⟩ := He.ba m2
  obtain ⟨c1, m3⟩ := He.ba (show (He.eqO (PySem.W.findIn K (.ref (cM K "TooLong")) "__init__") (some (some (.ref (fI K "TooLong")))) && (decide (PySem.W.typeIn K (.ref (fI K "TooLong")) = some (.type "function")) && (decide (PySem.W.kitCls K (.ref (cM K "TooLong")) (.type "ValueError") = some true) && xfB K (cM K "TooLong")))) = true from m3)
  obtain ⟨c2, m3⟩ := He.ba m3
  obtain ⟨c3, c4⟩ := He.ba m3
  have ox := oexB_ok a1
  have sf : SupF Pg K mg (cM K "TooLong") (fI K "TooLong") (cellOf K "TooLong") (He.codeOf K (pI "TooLong")) "TooLong.__init__" := ⟨a2, fileB_ok a3, cellB_ok a4, Option.isSome_iff_exists.mp a5, of_decide_eq_true b1, by decide +kernel, He.eqO_ok b2, He.eqO_ok b3, of_decide_eq_true b4, (He.free_ok X G (c.facts (List.mem_of_getElem? (i := 49) rfl))), ox⟩
  obtain ⟨oc, od, osl, kV, doc, pm, ct, an, lk⟩ := too_lk z (c.facts (List.mem_of_getElem? (i := 89) rfl))
  exact ⟨(He.glo_ok X G (c.facts (List.mem_of_getElem? (i := 65) rfl))), ox, fI K "TooLong", _, He.eqO_ok c1, of_decide_eq_true c2, too_fn sf lk (He.noat_ok (c.facts (List.mem_of_getElem? (i := 88) rfl))), .all fun us hl => match us, hl with | [_, _], _ => rfl⟩
theorem et_of2 (m : exC K "TooLong" "TooLong.__init__" = true) : PySem.W.kitCls K (.ref (cM K "TooLong")) (.type "ValueError") = some true ∧ XfC K (cM K "TooLong") := by
  obtain ⟨m1, m⟩ := He.ba (show (ex1 K "TooLong" "TooLong.__init__" && (ex2 K "TooLong" && ex3 K "TooLong")) = true from m)
  obtain ⟨m2, m3⟩ := He.ba m
  obtain ⟨a1, m1⟩ := He.ba (show (oexB K (cM K "TooLong") && (PySem.W.codeIn K (.ref (He.codeOf K (pI "TooLong"))) "TooLong.__init__" && (fileB K (He.codeOf K (pI "TooLong")) && (cellB K (cellOf K "TooLong") (cM K "TooLong") && someB K (cM K "TooLong"))))) = true from m1)
  obtain ⟨a2, m1⟩ := He.ba m1
  obtain ⟨a3, m1⟩ := He.ba m1
  obtain ⟨a4, a5⟩ := He.ba m1
  obtain ⟨b1, m2⟩ := He.ba (show (decide (PySem.W.mroIn K (cM K "TooLong") (.ref (cM K "TooLong")) = some true) && (He.eqO (PySem.W.ks_superIn K (cM K "TooLong") (cM K "TooLong") "__init__") (some (some (.builtin "ValueError.__init__"))) && (He.eqO (PySem.W.nsIn K cStatics "thirdparty.any") (some none) && decide (PySem.W.subIn K (.ref (cM K "TooLong")) (.type "ValueError") = some true)))) = true from m2)
  obtain ⟨b2, m2⟩ := He.ba m2
  obtain ⟨b3, b4⟩ := He.ba m2
  obtain ⟨c1, m3⟩ := He.ba (show (He.eqO (PySem.W.findIn K (.ref (cM K "TooLong")) "__init__") (some (some (.ref (fI K "TooLong")))) && (decide (PySem.W.typeIn K (.ref (fI K "TooLong")) = some (.type "function")) && (decide (PySem.W.kitCls K (.ref (cM K "TooLong")) (.type "ValueError") = some true) && xfB K (cM K "TooLong")))) = true from m3)
  obtain ⟨c2, m3⟩ := He.ba m3
  obtain ⟨c3, c4⟩ := He.ba m3
  exact ⟨of_decide_eq_true c3, xfB_ok c4⟩
abbrev csOf (K : PySem.W.Frag) : Cs := ⟨cM K "BadLetters", cM K "BadKinds", cM K "BadText", cM K "TooLong", cM K "BadReader", cM K "ScribeError"⟩
theorem ers_of (X : K.In h) (G : h.Ns mainGlobals mg) (c : He.SaysD fa fn K) (m1 : exC K "TooLong" "TooLong.__init__" = true) : Ers K mg (csOf K) :=
  ⟨(He.glo_ok X G (c.facts (List.mem_of_getElem? (i := 62) rfl))), (He.glo_ok X G (c.facts (List.mem_of_getElem? (i := 63) rfl))), (He.glo_ok X G (c.facts (List.mem_of_getElem? (i := 64) rfl))), (He.glo_ok X G (c.facts (List.mem_of_getElem? (i := 65) rfl))), (He.glo_ok X G (c.facts (List.mem_of_getElem? (i := 66) rfl))), (He.glo_ok X G (c.facts (List.mem_of_getElem? (i := 67) rfl))), (He.exm_ok (c.facts (List.mem_of_getElem? (i := 73) rfl))), (He.exm_ok (c.facts (List.mem_of_getElem? (i := 74) rfl))), (He.exm_ok (c.facts (List.mem_of_getElem? (i := 75) rfl))), (He.exm_ok (c.facts (List.mem_of_getElem? (i := 76) rfl))), (He.exm_ok (c.facts (List.mem_of_getElem? (i := 77) rfl))), (He.exm_ok (c.facts (List.mem_of_getElem? (i := 78) rfl))), (He.exm_ok (c.facts (List.mem_of_getElem? (i := 79) rfl))), (He.exm_ok (c.facts (List.mem_of_getElem? (i := 80) rfl))), (He.exm_ok (c.facts (List.mem_of_getElem? (i := 81) rfl))), (He.exm_ok (c.facts (List.mem_of_getElem? (i := 82) rfl))), (He.exm_ok (c.facts (List.mem_of_getElem? (i := 83) rfl))), (He.exm_ok (c.facts (List.mem_of_getElem? (i := 84) rfl))), (He.exm_ok (c.facts (List.mem_of_getElem? (i := 85) rfl))), (He.exm_ok (c.facts (List.mem_of_getElem? (i := 86) rfl))), (He.exm_ok (c.facts (List.mem_of_getElem? (i := 87) rfl))), (et_of2 m1).1, (et_of2 m1).2, He.noat_ok (c.facts (List.mem_of_getElem? (i := 88) rfl))⟩
theorem askd_of (X : K.In h) (G : h.Ns mainGlobals mg) (c : He.SaysD fa fn K) : ∃ g cdg, AskD K mg "_law_error" sError g cdg := by
  obtain ⟨fd, F⟩ := c.defs (d := mkD "_law_error" sError) (List.mem_of_getElem? (i := 34) rfl)
  have hb := F.bindsN (ps := ["call"]) (fun _ _ _ _ _ _ us hl => match us, hl with | [_], _ => rfl)
  obtain ⟨oc, od, dV, kV, doc, pm, an, cdv, ct, osl, rfl, lk, hcd, _, _⟩ := F.ex
  exact ⟨_, cdv, (He.glo_ok X G (c.facts (List.mem_of_getElem? (i := 34) rfl))), F.kp, ⟨dV, kV, doc, pm, ct, oc, an, od, osl, lk, hb⟩, hcd⟩
theorem fwc_of (c : He.SaysD fa fn K) : FwC K (He.ga K "Follower") := ⟨He.cls_ok (c.facts (List.mem_of_getElem? (i := 90) rfl)), He.noat_ok (c.facts (List.mem_of_getElem? (i := 91) rfl)), He.noat_ok (c.facts (List.mem_of_getElem? (i := 92) rfl))⟩
theorem dm_of (c : He.SaysD fa fn K) (m q : Str) (st : Stmt) (h1 : mkM m q st ∈ fn) (h2 : He.Fa.meth "Follower" m ∈ fa) : DfM K (He.ga K "Follower") m q st := by
  obtain ⟨fd, F⟩ := c.defs h1
  exact ⟨_, fd, F, He.meth_ok (c.facts h2)⟩
theorem di_of (c : He.SaysD fa fn K) : DfI K (He.ga K "Follower") "Follower.__init__" (fm 0) := by
  obtain ⟨fd, F⟩ := c.defs (d := mkM "__init__" "Follower.__init__" (fm 0)) (List.mem_of_getElem? (i := 36) rfl)
  exact ⟨_, fd, F, He.mkr_ok (c.facts (List.mem_of_getElem? (i := 93) rfl))⟩
theorem wo_of {base : Heap} (X : K.In base) (G : base.Ns mainGlobals mg) (c : He.SaysD fa fn K) (z : fnZ K "TooLong" = valZ "TooLong.__init__" initS) (m1 : exB K = true) (TB1 : TabB base mg (He.codeOf K ("law", none)) (He.cT K ("law", none)).2) :
    ∃ g cdg, Wo Pg w K mg base (csOf K) g cdg (He.codeOf K ("law", none)) (He.cT K ("law", none)).2 := by
  obtain ⟨g, cdg, AD⟩ := askd_of X G c
  have hb : Bl mg := bl_of X G c
  have et : Et Pg w K mg base "TooLong" (cM K "TooLong") := et_of X G c z m1
  have fc := fwc_of c
  have i1 := c_is_integer (P := Pg) (w := w) (base := base) (df_of X G c "is_integer" sIsInteger (List.mem_of_getElem? (i := 0) rfl) (List.mem_of_getElem? (i := 0) rfl)) hb
  have i2 := c_is_letters (P := Pg) (w := w) (base := base) (df_of X G c "is_letters" sIsLetters (List.mem_of_getElem? (i := 1) rfl) (List.mem_of_getElem? (i := 1) rfl)) hb (gn_of X G c "MOST_LETTERS" 4 (List.mem_of_getElem? (i := 53) rfl))
  have i3 := c_is_text (P := Pg) (w := w) (base := base) (df_of X G c "is_text" sIsText (List.mem_of_getElem? (i := 2) rfl) (List.mem_of_getElem? (i := 2) rfl)) hb
  have i4 := c_is_text_within (df_of X G c "is_text_within" sIsTextWithin (List.mem_of_getElem? (i := 3) rfl) (List.mem_of_getElem? (i := 3) rfl)) hb i3
  have i5 := c_is_kind (df_of X G c "is_kind" sIsKind (List.mem_of_getElem? (i := 4) rfl) (List.mem_of_getElem? (i := 4) rfl)) hb (gn_of X G c "LONGEST_LEFT" 3 (List.mem_of_getElem? (i := 55) rfl)) (gn_of X G c "LONGEST_RIGHT" 1 (List.mem_of_getElem? (i := 56) rfl)) i4
  have i6 := c_is_lot (df_of X G c "is_lot" sIsLot (List.mem_of_getElem? (i := 5) rfl) (List.mem_of_getElem? (i := 5) rfl)) hb (gn_of X G c "MOST_KINDS" 12 (List.mem_of_getElem? (i := 57) rfl)) i5
  have x1 := x_check_letters (df_of X G c "check_letters" sCheckLetters (List.mem_of_getElem? (i := 6) rfl) (List.mem_of_getElem? (i := 6) rfl)) (ec_of X G c "BadLetters" (List.mem_of_getElem? (i := 62) rfl) (List.mem_of_getElem? (i := 69) rfl)) i2
  have x2 := x_check_text (df_of X G c "check_text" sCheckText (List.mem_of_getElem? (i := 7) rfl) (List.mem_of_getElem? (i := 7) rfl)) (ec_of X G c "BadText" (List.mem_of_getElem? (i := 64) rfl) (List.mem_of_getElem? (i := 71) rfl)) (gn_of X G c "LONGEST_TEXT" 40 (List.mem_of_getElem? (i := 54) rfl)) i4
  have x3 := x_check_kinds (df_of X G c "check_kinds" sCheckKinds (List.mem_of_getElem? (i := 8) rfl) (List.mem_of_getElem? (i := 8) rfl)) (ec_of X G c "BadKinds" (List.mem_of_getElem? (i := 63) rfl) (List.mem_of_getElem? (i := 70) rfl)) i6
  have r1 := c_is_row (df_of X G c "is_row" sIsRow (List.mem_of_getElem? (i := 9) rfl) (List.mem_of_getElem? (i := 9) rfl)) hb i1
  have r2 := c_is_reader (df_of X G c "is_reader" sIsReader (List.mem_of_getElem? (i := 10) rfl) (List.mem_of_getElem? (i := 10) rfl)) hb (gn_of X G c "MOST_STANDS" 200 (List.mem_of_getElem? (i := 58) rfl)) i2 r1
  have x4 := x_check_reader (df_of X G c "check_reader" sChkReader (List.mem_of_getElem? (i := 11) rfl) (List.mem_of_getElem? (i := 11) rfl)) (ec_of X G c "BadReader" (List.mem_of_getElem? (i := 66) rfl) (List.mem_of_getElem? (i := 72) rfl)) r2
  have f0 := x_finit (P := Pg) (w := w) (mg := mg) (base := base) fc (di_of c) (He.glo_ok X G (c.facts (List.mem_of_getElem? (i := 68) rfl)))
  have f1 := m_fpart (P := Pg) (w := w) (mg := mg) (base := base) fc (dm_of c "behind_part" "Follower.behind_part" (fm 1) (List.mem_of_getElem? (i := 37) rfl) (List.mem_of_getElem? (i := 94) rfl)) hb (gn_of X G c "PART" 8 (List.mem_of_getElem? (i := 59) rfl))
  have f2 := m_fbeh fc (dm_of c "behind" "Follower.behind" (fm 2) (List.mem_of_getElem? (i := 38) rfl) (List.mem_of_getElem? (i := 95) rfl)) hb (gn_of X G c "PART" 8 (List.mem_of_getElem? (i := 59) rfl)) (gn_of X G c "FULL_PART" 255 (List.mem_of_getElem? (i := 60) rfl)) f1
  have l1 := c_thru fc (df_of X G c "rows_through" sThru (List.mem_of_getElem? (i := 14) rfl) (List.mem_of_getElem? (i := 14) rfl)) f0 f2
  have l2 := c_joined (P := Pg) (w := w) (base := base) (df_of X G c "rows_joined" sJoined (List.mem_of_getElem? (i := 15) rfl) (List.mem_of_getElem? (i := 15) rfl)) hb (He.free_ok X G (c.facts (List.mem_of_getElem? (i := 51) rfl)))
  have l3 := c_begin (P := Pg) (w := w) (base := base) (df_of X G c "beginnings" sBegin (List.mem_of_getElem? (i := 13) rfl) (List.mem_of_getElem? (i := 13) rfl)) hb
  have l4 := c_rowsof (df_of X G c "rows_of_texts" sRowsOf (List.mem_of_getElem? (i := 16) rfl) (List.mem_of_getElem? (i := 16) rfl)) hb l3 l1
  have l5 := c_spr (df_of X G c "spread_once" sSpr (List.mem_of_getElem? (i := 17) rfl) (List.mem_of_getElem? (i := 17) rfl)) hb (He.free_ok X G (c.facts (List.mem_of_getElem? (i := 51) rfl))) l4 l2 l1
  have l6 := c_spread (df_of X G c "spread" sSpread (List.mem_of_getElem? (i := 18) rfl) (List.mem_of_getElem? (i := 18) rfl)) l5
  have l7 := c_said (df_of X G c "is_said" sSaid (List.mem_of_getElem? (i := 19) rfl) (List.mem_of_getElem? (i := 19) rfl)) l4
  have l8 := c_line (P := Pg) (w := w) (base := base) (df_of X G c "loose_line" sLine (List.mem_of_getElem? (i := 12) rfl) (List.mem_of_getElem? (i := 12) rfl)) hb (He.free_ok X G (c.facts (List.mem_of_getElem? (i := 52) rfl)))
  have w1 := c_counted (df_of X G c "ways_counted" sCounted (List.mem_of_getElem? (i := 20) rfl) (List.mem_of_getElem? (i := 20) rfl)) l6 l7
  have x5 := x_led (df_of X G c "check_led" sLed (List.mem_of_getElem? (i := 21) rfl) (List.mem_of_getElem? (i := 21) rfl)) hb (gn_of X G c "LONGEST_LED" 8 (List.mem_of_getElem? (i := 61) rfl)) et
  have x6 := x_check_texts_of (df_of X G c "check_texts_of" sTextsOf (List.mem_of_getElem? (i := 22) rfl) (List.mem_of_getElem? (i := 22) rfl)) x1 x3 x2
  have x7 := x_between (df_of X G c "ways_between" sBetween (List.mem_of_getElem? (i := 23) rfl) (List.mem_of_getElem? (i := 23) rfl)) x6 x5 l8 w1
  have z1 := x_fewest (df_of X G c "fewest" sFewest (List.mem_of_getElem? (i := 24) rfl) (List.mem_of_getElem? (i := 24) rfl)) x7
  have z2 := x_way (df_of X G c "way" sWay (List.mem_of_getElem? (i := 25) rfl) (List.mem_of_getElem? (i := 25) rfl)) x7
  have z3 := x_leads (df_of X G c "leads" sLeads (List.mem_of_getElem? (i := 27) rfl) (List.mem_of_getElem? (i := 27) rfl)) x6
  have z4 := x_origin (df_of X G c "origin" sOrigin (List.mem_of_getElem? (i := 26) rfl) (List.mem_of_getElem? (i := 26) rfl)) x4 x3 x2 x5
  have k1 := c_taken (P := Pg) (w := w) (base := base) (df_of X G c "_law_taken" sTaken (List.mem_of_getElem? (i := 28) rfl) (List.mem_of_getElem? (i := 28) rfl)) hb
  have k2 := c_pick (df_of X G c "_law_pick" sPick (List.mem_of_getElem? (i := 29) rfl) (List.mem_of_getElem? (i := 29) rfl)) hb k1
  have k3 := c_letters (df_of X G c "_law_letters" sLetters (List.mem_of_getElem? (i := 30) rfl) (List.mem_of_getElem? (i := 30) rfl)) k2
  have k4 := c_text (df_of X G c "_law_text" sText (List.mem_of_getElem? (i := 31) rfl) (List.mem_of_getElem? (i := 31) rfl)) hb k1 k2
  have k5 := c_kinds (df_of X G c "_law_kinds" sKinds (List.mem_of_getElem? (i := 32) rfl) (List.mem_of_getElem? (i := 32) rfl)) hb k1 k2 k4
  have k6 := c_lawreader (df_of X G c "_law_reader" sReader (List.mem_of_getElem? (i := 33) rfl) (List.mem_of_getElem? (i := 33) rfl)) hb k1
  exact ⟨g, cdg, ers_of X G c m1, hb, (He.free_ok X G (c.facts (List.mem_of_getElem? (i := 50) rfl))), AD, TB1, k1, k3, k5, k6, ⟨z1, z2, z3, z4⟩⟩
theorem law_ok (w : World) (X : K.In h) (G : h.Ns mainGlobals mg) (c : SaysY w h K) {f : Addr} (hfa : mg ("law" : Str) = some (.ref f)) : LamX.LawAtS PySem.Challenge.rw_anyscribe_k14_ways_refused w K C8.CX0 12 63 "script" mg f h := by
  have cd : He.SaysD fa fn K := c.t.d
  obtain ⟨f1, fd, F, e1, hc⟩ := dfc_of X G cd "law" sLaw (List.mem_of_getElem? (i := 35) rfl) (List.mem_of_getElem? (i := 35) rfl)
  cases hfa.symm.trans e1
  have in1 : (("law", none) : He.Defn) ∈ tf := List.mem_cons_self ..
  have onep : ∀ (P : Addr × Addr → Prop), P (He.cT K ("law", none)) → ∀ p ∈ [He.cT K ("law", none)], P p := fun P a p hp => by
    rw [List.mem_singleton.mp hp]
    exact a
  refine ⟨fd, [He.cT K ("law", none)], spLaw K (tabs1 (He.cT K ("law", none)).2), onep _ (c.empty _ in1), onep _ (c.out _ in1), onep _ (PySem.W.codeHd_of_K X (c.hd _ in1)), fun s u => ?_, fun H a ns hl _ hH hS => ?_, fun base Xb Gb TB => ?_⟩
  · exact FunD.bindsA (ps := ["script"]) F (fun _ _ _ _ _ _ us hl => match us, hl with | [_], _ => rfl) s [u] rfl
  · refine ⟨a, ns, rfl, hS, fun p hp => ?_, fun _ => rfl⟩
    rw [List.mem_singleton.mp hp]
    exact TabN.nil (hH _ (List.mem_cons_self ..))
  · obtain ⟨g, cdg, W⟩ := wo_of (w := w) Xb Gb cd c.z c.more (TB _ (List.mem_cons_self ..))
    exact ok_law F hc W
end
end K14
open PySem PySem.W PyProof.Rows
theorem PySem.Challenge.cw_anyscribe_k14_ways_refused_holds : PySem.Challenge.rw_anyscribe_k14_ways_refused.Holds := by
  w_on; o_law
  refine HandSHeadRun.head_any (r := K14.Rw) (q := view K14.Rw.prog [98]) (H := K14.hk) (ob := K14.ob) (M := 9000) (loose := K14.loose) (d := HandSHeadRun.topDef K14.Rw.prog 98) (kwd := []) K14.ob_eq
    (by kernel_rfl) (fun s => by kernel_rfl) K14.run (by kernel_rfl) (by kernel_rfl) (by kernel_rfl) (by rfl) (by first | assumption | decide +kernel) (by decide +kernel) ⟨rfl, rfl, rfl, rfl, rfl, by decide +kernel⟩ ?hw ?hc
  case hw => w_witness2
  case hc =>
    refine LamX.walk_ofTsE (l := PySem.Challenge.rw_anyscribe_k14_ways_refused) (n := 63) (k := 12) (x := "script") (CX := fun _ => C8.CX0) rfl (by decide) (by kernel_rfl) ⟨rfl, by decide, by decide⟩ ?F (fun _ _ _ _ _ z => z)
    intro w mg fa h Y G hmg0
    obtain ⟨K, KX, c⟩ := Y
    have hmg : mg ("law" : PySem.Str) = some (.ref fa) := by
      have e : (HandSHeadRun.topDef K14.Rw.prog 98).name = ("law" : PySem.Str) := by kernel_rfl
      rw [← e]
      exact hmg0
    exact ⟨K, KX, K14.law_ok w KX G c hmg⟩
