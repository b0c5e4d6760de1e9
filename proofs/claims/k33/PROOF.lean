import PyProof.Rows.All
import Wide.All
import OpenK.AllK
import Wide.FinOn
import HandS.ForMost
import HandS.WideBits
import HandS.Deep
import HandS.TupAny
import HandS.IsInst
import HandS.RaiseMore
import HandS.Style
import HandS.Zip
import HandS.Conv
import HandS.Flow
import HandS.Codes
import PyProof.CallFns
import PyProof.ReprRoads
import PyProof.ReprLen
import HandS.SortInts
import KE.SortKeyHeap
import KE.GoesEnum
import KE.KDictZip
import KE.KDictList
import HandS.Star
import HandS.Defaults
import HandS.TryOnly
import HandS.Wide
import PyProof.Rows.RuleB_pow
import KE.DataMinMax
import KE.GoesEnumKw
import PyProof.P3Eq
import PySem.Challenge.RW_meetrow_k33_a_beat
set_option Elab.async false
set_option linter.all false
set_option maxRecDepth 100000
namespace M
open PySem PySem.Spec PyProof.Rows L2

/-! ### data: trees of values; o tells of a list or dict whether it is one's own (it may be changed) -/
inductive D where
  | non | bl (b : Bool) | int (i : Int) | str (x : Str)
  | tup (xs : List D)
  | lst (o : Bool) (xs : List D)
  | frl (xs : List D)
  | dK (o : Bool) (kvs : List (Key × D))
  | dT (o : Bool) (kvs : List (List Key × D))
  | ins (o : Bool) (C : Addr) (fs : List (Str × D))
  | rng (lo hi : Int)
  | hole (v : V) | off
mutual
def fz : D → D
  | .non => .non | .bl b => .bl b | .int i => .int i | .str x => .str x
  | .tup xs => .tup (fzL xs)
  | .lst _ xs => .lst false (fzL xs)
  | .frl xs => .frl (fzL xs)
  | .dK _ kvs => .dK false (fzP kvs)
  | .dT _ kvs => .dT false (fzQ kvs)
  | .ins _ C fs => .ins false C (fzS fs)
  | .rng a b => .rng a b
  | .hole v => .hole v
  | .off => .off
def fzL : List D → List D
  | [] => [] | x :: xs => fz x :: fzL xs
def fzP : List (Key × D) → List (Key × D)
  | [] => [] | (k, x) :: xs => (k, fz x) :: fzP xs
def fzQ : List (List Key × D) → List (List Key × D)
  | [] => [] | (k, x) :: xs => (k, fz x) :: fzQ xs
def fzS : List (Str × D) → List (Str × D)
  | [] => [] | (k, x) :: xs => (k, fz x) :: fzS xs
end
theorem fzL_eq : ∀ xs : List D, fzL xs = xs.map fz
  | [] => rfl
  | x :: xs => by rw [fzL, fzL_eq xs]; rfl
theorem fzP_eq : ∀ xs : List (Key × D), fzP xs = xs.map fun p => (p.1, fz p.2)
  | [] => rfl
  | (k, x) :: xs => by rw [fzP, fzP_eq xs]; rfl
theorem fzQ_eq : ∀ xs : List (List Key × D), fzQ xs = xs.map fun p => (p.1, fz p.2)
  | [] => rfl
  | (k, x) :: xs => by rw [fzQ, fzQ_eq xs]; rfl
theorem fzS_eq : ∀ xs : List (Str × D), fzS xs = xs.map fun p => (p.1, fz p.2)
  | [] => rfl
  | (k, x) :: xs => by rw [fzS, fzS_eq xs]; rfl

/-! ### how data lie: F what is frozen, H the heap, the list: the addresses of one's own objects -/
mutual
inductive Rp (K : PySem.W.Frag) (F H : Hp) : D → V → List Addr → Prop
  | non : Rp K F H .non .non []
  | bl (b : Bool) : Rp K F H (.bl b) (.bl b) []
  | int (i : Int) : Rp K F H (.int i) (.int i) []
  | str (x : Str) : Rp K F H (.str x) (.str x) []
  | hole (v : V) : Rp K F H (.hole v) v []
  | off (v : V) : Rp K F H .off v []
  | rng {a : Addr} {lo hi : Int} : F a = some (.rng lo hi) → Rp K F H (.rng lo hi) (.ref a) []
  | tup {a : Addr} {vs : List V} {ds : List D} {M : List Addr} : SqT K F a vs → RpL K F H ds vs M → Rp K F H (.tup ds) (.ref a) M
  | lstF {a : Addr} {vs : List V} {ds : List D} {M : List Addr} : F a = some (.lst vs) → RpL K F H ds vs M → Rp K F H (.lst false ds) (.ref a) M
  | frl {a : Addr} {vs : List V} {ds : List D} {M : List Addr} : SqL K F a vs → RpL K F H ds vs M → Rp K F H (.frl ds) (.ref a) M
  | lstO {a : Addr} {vs : List V} {ds : List D} {M : List Addr} : H a = some (.lst vs) → RpL K F H ds vs M → Rp K F H (.lst true ds) (.ref a) (a :: M)
  | dKF {a : Addr} {hk : List (Key × V)} {kvs : List (Key × D)} {M : List Addr} : F a = some (.dK hk) → hk.map (·.1) = kvs.map (·.1) → RpL K F H (kvs.map (·.2)) (hk.map (·.2)) M → Rp K F H (.dK false kvs) (.ref a) M
  | dKO {a : Addr} {hk : List (Key × V)} {kvs : List (Key × D)} {M : List Addr} : H a = some (.dK hk) → hk.map (·.1) = kvs.map (·.1) → RpL K F H (kvs.map (·.2)) (hk.map (·.2)) M → Rp K F H (.dK true kvs) (.ref a) (a :: M)
  | dTF {a : Addr} {hk : List (List Key × V)} {kvs : List (List Key × D)} {M : List Addr} : F a = some (.dT hk) → hk.map (·.1) = kvs.map (·.1) → RpL K F H (kvs.map (·.2)) (hk.map (·.2)) M → Rp K F H (.dT false kvs) (.ref a) M
  | dTO {a : Addr} {hk : List (List Key × V)} {kvs : List (List Key × D)} {M : List Addr} : H a = some (.dT hk) → hk.map (·.1) = kvs.map (·.1) → RpL K F H (kvs.map (·.2)) (hk.map (·.2)) M → Rp K F H (.dT true kvs) (.ref a) (a :: M)
  | insF {a C dx : Addr} {hf : List (Str × V)} {fs : List (Str × D)} {M : List Addr} : F a = some (.ins C dx hf) → hf.map (·.1) = fs.map (·.1) → RpL K F H (fs.map (·.2)) (hf.map (·.2)) M → Rp K F H (.ins false C fs) (.ref a) M
  | insO {a C dx : Addr} {hf : List (Str × V)} {fs : List (Str × D)} {M : List Addr} : H a = some (.ins C dx hf) → hf.map (·.1) = fs.map (·.1) → RpL K F H (fs.map (·.2)) (hf.map (·.2)) M → Rp K F H (.ins true C fs) (.ref a) (a :: M)
inductive RpL (K : PySem.W.Frag) (F H : Hp) : List D → List V → List Addr → Prop
  | nil : RpL K F H [] [] []
  | cons {d : D} {v : V} {ds : List D} {vs : List V} {M N : List Addr} : Rp K F H d v M → RpL K F H ds vs N → RpL K F H (d :: ds) (v :: vs) (M ++ N)
end

/-- the dicts that a loop may lock -/
def lockable : HO → Prop
  | .dK _ => True
  | .dT _ => True
  | _ => False
/-- the frozen part lies in the heap -/
def Sub (F H : Hp) : Prop := ∀ a u, F a = some u → H a = some u ∨ (lockable u ∧ ∃ o, H a = some (.frz o u))
structure Wd (F H : Hp) (M : List Addr) : Prop where
  sub : Sub F H
  nd : M.Nodup
  fr : ∀ a ∈ M, F a = none
  th : ∀ a ∈ M, H a ≠ none
/-- from one world to the next: A may have been changed, B is what is owned of it then -/
structure Tr (F H : Hp) (A : List Addr) (F' H' : Hp) (B : List Addr) : Prop where
  up : ∀ a u, F a = some u → F' a = some u
  new : ∀ a, F' a ≠ none → F a ≠ none ∨ a ∈ A ∨ H a = none
  own : ∀ a ∈ B, a ∈ A ∨ H a = none
  keep : ∀ a u, H a = some u → a ∉ A → F a = none → H' a = some u

section
variable {K : PySem.W.Frag} {F H F' H' F'' H'' : Hp} {A B C M N R : List Addr}
theorem Tr.refl (F H : Hp) (A : List Addr) : Tr F H A F H A := ⟨fun _ _ h => h, fun _ h => .inl h, fun _ h => .inl h, fun _ _ h _ _ => h⟩
theorem Tr.trans (w : Wd F H A) (w' : Wd F' H' B) (s : Tr F H A F' H' B) (t : Tr F' H' B F'' H'' C) : Tr F H A F'' H'' C := by
  have hnone : ∀ a, H' a = none → a ∈ A ∨ H a = none := fun a h => by
    by_cases hA : a ∈ A
    · exact .inl hA
    · cases e : H a with
      | none => exact .inr rfl
      | some u =>
        cases f : F a with
        | none =>
          have := s.keep a u e hA f
          rw [h] at this; cases this
        | some z =>
          rcases w'.sub a z (s.up a z f) with q | ⟨_, o, q⟩ <;> (rw [h] at q; cases q)
  refine ⟨fun a u h => t.up a u (s.up a u h), fun a h => ?_, fun a h => ?_, fun a u h hA f => ?_⟩
  · rcases t.new a h with q | q | q
    · exact s.new a q
    · rcases s.own a q with z | z
      · exact .inr (.inl z)
      · exact .inr (.inr z)
    · exact .inr (hnone a q)
  · rcases t.own a h with q | q
    · exact s.own a q
    · exact hnone a q
  · have h1 := s.keep a u h hA f
    have hB : a ∉ B := fun z => by
      rcases s.own a z with q | q
      · exact hA q
      · rw [h] at q; cases q
    refine t.keep a u h1 hB ?_
    cases e : F' a with
    | none => rfl
    | some z =>
      rcases s.new a (by rw [e]; exact fun q => nomatch q) with q | q | q
      · exact absurd f q
      · exact absurd q hA
      · rw [h] at q; cases q
theorem Tr.drop (t : Tr F H A F' H' B) (h : ∀ a ∈ C, a ∈ B) : Tr F H A F' H' C := ⟨t.up, t.new, fun a q => t.own a (h a q), t.keep⟩
theorem Tr.wide (t : Tr F H A F' H' B) (h : ∀ a ∈ A, a ∈ C) : Tr F H C F' H' B := ⟨t.up, fun a q => (t.new a q).imp_right fun z => z.imp_left (h a), fun a q => (t.own a q).imp_left (h a), fun a u q z => t.keep a u q fun y => z (h a y)⟩
theorem Wd.part (w : Wd F H M) (h : N.Sublist M) : Wd F H N := ⟨w.sub, w.nd.sublist h, fun a q => w.fr a (h.subset q), fun a q => w.th a (h.subset q)⟩
theorem Wd.perm (w : Wd F H M) (h : N.Perm M) : Wd F H N := ⟨w.sub, h.nodup_iff.mpr w.nd, fun a q => w.fr a (h.mem_iff.mp q), fun a q => w.th a (h.mem_iff.mp q)⟩

/-- the frame: R lies beside -/
structure Beside (F H : Hp) (A R : List Addr) (F' H' : Hp) (B : List Addr) : Prop where
  wd : Wd F' H' (B ++ R)
  tr : Tr F H (A ++ R) F' H' (B ++ R)
  same : ∀ a ∈ R, H' a = H a
theorem frame (w : Wd F H (A ++ R)) (t : Tr F H A F' H' B) (w' : Wd F' H' B) : Beside F H A R F' H' B := by
  have hR : ∀ a ∈ R, ∃ u, H a = some u ∧ H' a = some u := fun a h => by
    obtain ⟨u, e⟩ := Option.ne_none_iff_exists'.mp (w.th a (List.mem_append_right _ h))
    have hA : a ∉ A := fun z => (List.nodup_append.mp w.nd).2.2 a z a h rfl
    exact ⟨u, e, t.keep a u e hA (w.fr a (List.mem_append_right _ h))⟩
  have hB : ∀ a ∈ R, a ∉ B := fun a h z => by
    obtain ⟨u, e, _⟩ := hR a h
    rcases t.own a z with q | q
    · exact (List.nodup_append.mp w.nd).2.2 a q a h rfl
    · rw [e] at q; cases q
  refine ⟨⟨w'.sub, ?_, fun a h => ?_, fun a h => ?_⟩, ⟨t.up, fun a h => ?_, fun a h => ?_, fun a u h z f => ?_⟩, fun a h => ?_⟩
  · refine List.nodup_append.mpr ⟨w'.nd, (List.nodup_append.mp w.nd).2.1, fun a h b h' e => ?_⟩
    subst e
    exact hB a h' h
  · rcases List.mem_append.mp h with q | q
    · exact w'.fr a q
    · cases e : F' a with
      | none => rfl
      | some z =>
        obtain ⟨u, e1, _⟩ := hR a q
        rcases t.new a (by rw [e]; exact fun q => nomatch q) with y | y | y
        · exact absurd (w.fr a (List.mem_append_right _ q)) y
        · exact absurd rfl ((List.nodup_append.mp w.nd).2.2 a y a q)
        · rw [e1] at y; cases y
  · rcases List.mem_append.mp h with q | q
    · exact w'.th a q
    · obtain ⟨u, _, e2⟩ := hR a q
      rw [e2]; exact fun z => nomatch z
  · exact (t.new a h).imp_right fun z => z.imp_left (List.mem_append_left _)
  · rcases List.mem_append.mp h with q | q
    · exact (t.own a q).imp_left (List.mem_append_left _)
    · exact .inl (List.mem_append_right _ q)
  · exact t.keep a u h (fun y => z (List.mem_append_left _ y)) f
  · obtain ⟨u, e1, e2⟩ := hR a h
    rw [e1, e2]
end

/-! ### what lies stays -/
section
variable {K : PySem.W.Frag} {F H F' H' : Hp}
theorem sqL_up (up : ∀ a u, F a = some u → F' a = some u) {a : Addr} {xs : List V} (h : SqL K F a xs) : SqL K F' a xs := by
  rcases h with (h | ⟨o, h⟩) | h
  · exact .inl (.inl (up _ _ h))
  · exact .inl (.inr ⟨o, up _ _ h⟩)
  · exact .inr h
theorem sqT_up (up : ∀ a u, F a = some u → F' a = some u) {a : Addr} {xs : List V} (h : SqT K F a xs) : SqT K F' a xs := by
  rcases h with (h | ⟨o, h⟩) | h
  · exact .inl (.inl (up _ _ h))
  · exact .inl (.inr ⟨o, up _ _ h⟩)
  · exact .inr h
mutual
theorem Rp.mono (up : ∀ a u, F a = some u → F' a = some u) : ∀ {d : D} {v : V} {M : List Addr}, Rp K F H d v M → (∀ a ∈ M, H' a = H a) → Rp K F' H' d v M
  | _, _, _, .non, _ => .non
  | _, _, _, .bl b, _ => .bl b
  | _, _, _, .int i, _ => .int i
  | _, _, _, .str x, _ => .str x
  | _, _, _, .hole v, _ => .hole v
  | _, _, _, .off v, _ => .off v
  | _, _, _, .rng h, _ => .rng (up _ _ h)
  | _, _, _, .tup h l, k => .tup (sqT_up up h) (RpL.mono up l k)
  | _, _, _, .lstF h l, k => .lstF (up _ _ h) (RpL.mono up l k)
  | _, _, _, .frl h l, k => .frl (sqL_up up h) (RpL.mono up l k)
  | _, _, _, .lstO h l, k => .lstO ((k _ List.mem_cons_self).trans h) (RpL.mono up l fun a q => k a (List.mem_cons_of_mem _ q))
  | _, _, _, .dKF h e l, k => .dKF (up _ _ h) e (RpL.mono up l k)
  | _, _, _, .dKO h e l, k => .dKO ((k _ List.mem_cons_self).trans h) e (RpL.mono up l fun a q => k a (List.mem_cons_of_mem _ q))
  | _, _, _, .dTF h e l, k => .dTF (up _ _ h) e (RpL.mono up l k)
  | _, _, _, .dTO h e l, k => .dTO ((k _ List.mem_cons_self).trans h) e (RpL.mono up l fun a q => k a (List.mem_cons_of_mem _ q))
  | _, _, _, .insF h e l, k => .insF (up _ _ h) e (RpL.mono up l k)
  | _, _, _, .insO h e l, k => .insO ((k _ List.mem_cons_self).trans h) e (RpL.mono up l fun a q => k a (List.mem_cons_of_mem _ q))
theorem RpL.mono (up : ∀ a u, F a = some u → F' a = some u) : ∀ {ds : List D} {vs : List V} {M : List Addr}, RpL K F H ds vs M → (∀ a ∈ M, H' a = H a) → RpL K F' H' ds vs M
  | _, _, _, .nil, _ => .nil
  | _, _, _, .cons h l, k => .cons (Rp.mono up h fun a q => k a (List.mem_append_left _ q)) (RpL.mono up l fun a q => k a (List.mem_append_right _ q))
end
theorem Beside.rp {A R B N : List Addr} (b : Beside F H A R F' H' B) {d : D} {v : V} (h : Rp K F H d v N) (hN : ∀ a ∈ N, a ∈ R) : Rp K F' H' d v N := h.mono b.tr.up fun a q => b.same a (hN a q)
theorem Beside.rpL {A R B N : List Addr} (b : Beside F H A R F' H' B) {ds : List D} {vs : List V} (h : RpL K F H ds vs N) (hN : ∀ a ∈ N, a ∈ R) : RpL K F' H' ds vs N := h.mono b.tr.up fun a q => b.same a (hN a q)
theorem RpL.len : ∀ {ds : List D} {vs : List V} {M : List Addr}, RpL K F H ds vs M → ds.length = vs.length
  | _, _, _, .nil => rfl
  | _, _, _, .cons _ l => congrArg (· + 1) l.len

/-! ### to freeze -/
/-- what is owned of M is frozen -/
def ice (F H : Hp) (M : List Addr) : Hp := fun a => if a ∈ M then H a else F a
theorem ice_in {M : List Addr} {a : Addr} (h : a ∈ M) : ice F H M a = H a := if_pos h
theorem ice_out {M : List Addr} {a : Addr} (h : a ∉ M) : ice F H M a = F a := if_neg h
theorem ice_up {M : List Addr} (w : ∀ a ∈ M, F a = none) : ∀ a u, F a = some u → ice F H M a = some u := fun a u h => by
  by_cases q : a ∈ M
  · rw [w a q] at h; cases h
  · rw [ice_out q]; exact h
mutual
theorem Rp.ice {M : List Addr} (w : ∀ a ∈ M, F a = none) : ∀ {d : D} {v : V} {N : List Addr}, Rp K F H d v N → (∀ a ∈ N, a ∈ M) → Rp K (ice F H M) H (fz d) v []
  | _, _, _, .non, _ => .non
  | _, _, _, .bl b, _ => .bl b
  | _, _, _, .int i, _ => .int i
  | _, _, _, .str x, _ => .str x
  | _, _, _, .hole v, _ => .hole v
  | _, _, _, .off v, _ => .off v
  | _, _, _, .rng h, _ => .rng (ice_up w _ _ h)
  | _, _, _, .tup h l, k => .tup (sqT_up (ice_up w) h) (RpL.ice w l k)
  | _, _, _, .lstF h l, k => .lstF (ice_up w _ _ h) (RpL.ice w l k)
  | _, _, _, .frl h l, k => .frl (sqL_up (ice_up w) h) (RpL.ice w l k)
  | _, _, _, .lstO h l, k => .lstF ((ice_in (k _ List.mem_cons_self)).trans h) (RpL.ice w l fun a q => k a (List.mem_cons_of_mem _ q))
  | _, _, _, .dKF h e l, k => by
    have l' := RpL.ice w l k
    refine .dKF (ice_up w _ _ h) (e.trans ?_) (by rw [fzP_eq, List.map_map]; rw [fzL_eq, List.map_map] at l'; exact l')
    rw [fzP_eq, List.map_map]; rfl
  | _, _, _, .dKO h e l, k => by
    have l' := RpL.ice w l fun a q => k a (List.mem_cons_of_mem _ q)
    refine .dKF ((ice_in (k _ List.mem_cons_self)).trans h) (e.trans ?_) (by rw [fzP_eq, List.map_map]; rw [fzL_eq, List.map_map] at l'; exact l')
    rw [fzP_eq, List.map_map]; rfl
  | _, _, _, .dTF h e l, k => by
    have l' := RpL.ice w l k
    refine .dTF (ice_up w _ _ h) (e.trans ?_) (by rw [fzQ_eq, List.map_map]; rw [fzL_eq, List.map_map] at l'; exact l')
    rw [fzQ_eq, List.map_map]; rfl
  | _, _, _, .dTO h e l, k => by
    have l' := RpL.ice w l fun a q => k a (List.mem_cons_of_mem _ q)
    refine .dTF ((ice_in (k _ List.mem_cons_self)).trans h) (e.trans ?_) (by rw [fzQ_eq, List.map_map]; rw [fzL_eq, List.map_map] at l'; exact l')
    rw [fzQ_eq, List.map_map]; rfl
  | _, _, _, .insF h e l, k => by
    have l' := RpL.ice w l k
    refine .insF (ice_up w _ _ h) (e.trans ?_) (by rw [fzS_eq, List.map_map]; rw [fzL_eq, List.map_map] at l'; exact l')
    rw [fzS_eq, List.map_map]; rfl
  | _, _, _, .insO h e l, k => by
    have l' := RpL.ice w l fun a q => k a (List.mem_cons_of_mem _ q)
    refine .insF ((ice_in (k _ List.mem_cons_self)).trans h) (e.trans ?_) (by rw [fzS_eq, List.map_map]; rw [fzL_eq, List.map_map] at l'; exact l')
    rw [fzS_eq, List.map_map]; rfl
theorem RpL.ice {M : List Addr} (w : ∀ a ∈ M, F a = none) : ∀ {ds : List D} {vs : List V} {N : List Addr}, RpL K F H ds vs N → (∀ a ∈ N, a ∈ M) → RpL K (ice F H M) H (fzL ds) vs []
  | _, _, _, .nil, _ => .nil
  | _, _, _, .cons h l, k => .cons (M := []) (N := []) (Rp.ice w h fun a q => k a (List.mem_append_left _ q)) (RpL.ice w l fun a q => k a (List.mem_append_right _ q))
end
theorem ice_tr {M : List Addr} (w : ∀ a ∈ M, F a = none) : Tr F H M (ice F H M) H [] := by
  refine ⟨ice_up w, fun a h => ?_, fun a h => (nomatch h), fun a u h _ _ => h⟩
  by_cases q : a ∈ M
  · exact .inr (.inl q)
  · rw [ice_out q] at h; exact .inl h
theorem ice_sub {M : List Addr} (w : Sub F H) : Sub (ice F H M) H := fun a u h => by
  by_cases q : a ∈ M
  · rw [ice_in q] at h; exact .inl h
  · rw [ice_out q] at h; exact w a u h
theorem ice_wd {M : List Addr} (w : Wd F H M) : Wd (ice F H M) H [] := ⟨ice_sub w.sub, List.nodup_nil, fun a h => (nomatch h), fun a h => (nomatch h)⟩
/-! what is frozen owns nothing -/
mutual
theorem Rp.frozen : ∀ {d : D} {v : V} {M : List Addr}, Rp K F H d v M → fz d = d → M = []
  | _, _, _, .non, _ => rfl
  | _, _, _, .bl b, _ => rfl
  | _, _, _, .int i, _ => rfl
  | _, _, _, .str x, _ => rfl
  | _, _, _, .hole v, _ => rfl
  | _, _, _, .off v, _ => rfl
  | _, _, _, .rng h, _ => rfl
  | _, _, _, .tup h l, e => by rw [fz] at e; exact RpL.frozen l (D.tup.inj e)
  | _, _, _, .lstF h l, e => by rw [fz] at e; exact RpL.frozen l (D.lst.inj e).2
  | _, _, _, .frl h l, e => by rw [fz] at e; exact RpL.frozen l (D.frl.inj e)
  | _, _, _, .lstO h l, e => by rw [fz] at e; exact absurd (D.lst.inj e).1 (by decide)
  | _, _, _, .dKF h q l, e => by
    rw [fz] at e
    have e := (D.dK.inj e).2
    rw [fzP_eq] at e
    refine RpL.frozen l ?_
    rw [fzL_eq, List.map_map]
    refine Eq.trans ?_ (congrArg (List.map (·.2)) e)
    rw [List.map_map]; rfl
  | _, _, _, .dKO h q l, e => by rw [fz] at e; exact absurd (D.dK.inj e).1 (by decide)
  | _, _, _, .dTF h q l, e => by
    rw [fz] at e
    have e := (D.dT.inj e).2
    rw [fzQ_eq] at e
    refine RpL.frozen l ?_
    rw [fzL_eq, List.map_map]
    refine Eq.trans ?_ (congrArg (List.map (·.2)) e)
    rw [List.map_map]; rfl
  | _, _, _, .dTO h q l, e => by rw [fz] at e; exact absurd (D.dT.inj e).1 (by decide)
  | _, _, _, .insF h q l, e => by
    rw [fz] at e
    have e := (D.ins.inj e).2.2
    rw [fzS_eq] at e
    refine RpL.frozen l ?_
    rw [fzL_eq, List.map_map]
    refine Eq.trans ?_ (congrArg (List.map (·.2)) e)
    rw [List.map_map]; rfl
  | _, _, _, .insO h q l, e => by rw [fz] at e; exact absurd (D.ins.inj e).1 (by decide)
theorem RpL.frozen : ∀ {ds : List D} {vs : List V} {M : List Addr}, RpL K F H ds vs M → fzL ds = ds → M = []
  | _, _, _, .nil, _ => rfl
  | _, _, _, .cons h l, e => by
    rw [fzL] at e
    rw [Rp.frozen h (List.cons.inj e).1, RpL.frozen l (List.cons.inj e).2]; rfl
end

/-! ### the slots -/
inductive RpO (K : PySem.W.Frag) (F H : Hp) : D → Option V → List Addr → Prop
  | any (x : Option V) : RpO K F H .off x []
  | on {d : D} {v : V} {M : List Addr} : Rp K F H d v M → RpO K F H d (some v) M
inductive SR (K : PySem.W.Frag) (F H : Hp) : List D → L2.St → List Addr → Prop
  | nil : SR K F H [] [] []
  | cons {d : D} {x : Option V} {ds : List D} {σ : L2.St} {M N : List Addr} : RpO K F H d x M → SR K F H ds σ N → SR K F H (d :: ds) (x :: σ) (M ++ N)
theorem RpO.mono (up : ∀ a u, F a = some u → F' a = some u) {d : D} {x : Option V} {M : List Addr} (h : RpO K F H d x M) (k : ∀ a ∈ M, H' a = H a) : RpO K F' H' d x M := by
  cases h with
  | any x => exact .any x
  | on h => exact .on (h.mono up k)
theorem SR.mono (up : ∀ a u, F a = some u → F' a = some u) : ∀ {ds : List D} {σ : L2.St} {M : List Addr}, SR K F H ds σ M → (∀ a ∈ M, H' a = H a) → SR K F' H' ds σ M
  | _, _, _, .nil, _ => .nil
  | _, _, _, .cons h l, k => .cons (h.mono up fun a q => k a (List.mem_append_left _ q)) (SR.mono up l fun a q => k a (List.mem_append_right _ q))
theorem SR.len : ∀ {ds : List D} {σ : L2.St} {M : List Addr}, SR K F H ds σ M → ds.length = σ.length
  | _, _, _, .nil => rfl
  | _, _, _, .cons _ l => congrArg (· + 1) l.len
/-- a slot's data are taken out; others (or the same, changed) may be put there -/
theorem SR.take : ∀ {ds : List D} {σ : L2.St} {M : List Addr} {i : Nat} {d : D}, SR K F H ds σ M → ds[i]? = some d →
    ∃ x N R, σ[i]? = some x ∧ RpO K F H d x N ∧ M.Perm (N ++ R) ∧
      ∀ F' H' d' y N', (∀ a u, F a = some u → F' a = some u) → (∀ a ∈ R, H' a = H a) → RpO K F' H' d' y N' → ∃ M', M'.Perm (N' ++ R) ∧ SR K F' H' (ds.set i d') (σ.set i y) M'
  | _, _, _, i, _, .nil, h => by simp at h
  | _, _, _, 0, d, .cons (M := M) (N := N) h l, e => by
    simp only [List.getElem?_cons_zero, Option.some.injEq] at e
    subst e
    exact ⟨_, M, N, rfl, h, List.Perm.refl _, fun F' H' d' y N' up k h' => ⟨N' ++ N, List.Perm.refl _, .cons h' (l.mono up k)⟩⟩
  | _, _, _, i + 1, d, .cons (M := M) (N := N) h l, e => by
    obtain ⟨x, N1, R1, e1, h1, p1, k1⟩ := SR.take (i := i) (d := d) l (by simpa using e)
    refine ⟨x, N1, M ++ R1, by simpa using e1, h1, ?_, fun F' H' d' y N' up k h' => ?_⟩
    · exact (p1.append_left M).trans (by rw [← List.append_assoc, ← List.append_assoc]; exact List.Perm.append_right _ List.perm_append_comm)
    · obtain ⟨M', p2, s2⟩ := k1 F' H' d' y N' up (fun a q => k a (List.mem_append_right _ q)) h'
      refine ⟨M ++ M', ?_, .cons (h.mono up fun a q => k a (List.mem_append_left _ q)) s2⟩
      exact (p2.append_left M).trans (by rw [← List.append_assoc, ← List.append_assoc]; exact List.Perm.append_right _ List.perm_append_comm)
end

/-! ### the machine's own words -/
section
variable (X : Cx)
def wE (e : Expr) : TE := fun σ H Q => ∀ (pins : List (Addr × Obj)) (s : Shared), Inv X pins σ H s → wpAny (model X.prog X.w) X.A (eval e X.env) (EP X pins σ Q) X.xe s
def wT (e : Expr) : TT := fun σ H Q => ∀ (pins : List (Addr × Obj)) (s : Shared), Inv X pins σ H s → wpAny (model X.prog X.w) X.A (isTrue e X.env (eval e X.env)) (TP X pins σ Q) X.xe s
def wW (e : Expr) : TT := fun σ H Q => ∀ (whole : Sem Value) (pins : List (Addr × Obj)) (s : Shared), Inv X pins σ H s → wpAny (model X.prog X.w) X.A (isTrue e X.env whole) (TP X pins σ Q) X.xe s
def wA (es : List Expr) : TA := fun σ H Q => ∀ (pos : Pos) (pins : List (Addr × Obj)) (s : Shared), Inv X pins σ H s → wpAny (model X.prog X.w) X.A (spliced (backTo pos (starEach es X.env))) (AP X pins σ Q) X.xe s
def wS (st : Stmt) : TS := fun D σ H => ∀ (pins : List (Addr × Obj)) (s : Shared), Inv X pins σ H s → wpAny (model X.prog X.w) X.A (exec st X.env) (SP X pins D) X.xe s
def wSs (st : List Stmt) : TS := fun D σ H => ∀ (pins : List (Addr × Obj)) (s : Shared), Inv X pins σ H s → wpAny (model X.prog X.w) X.A (execs st X.env) (SP X pins D) X.xe s
def wG (tg : Expr) : TG := fun v σ H Q => ∀ (pins : List (Addr × Obj)) (s : Shared) (u : Value), Inv X pins σ H s → RelV v u → wpAny (model X.prog X.w) X.A (assign tg X.env u) (fun _ s' => ∃ σ' H', Inv X pins σ' H' s' ∧ Q σ' H') X.xe s
end
section
variable {X : Cx}
theorem pe_w (e : Expr) : PE X e (wE X e) := ⟨fun pins s _ _ _ I h => h pins s I⟩
theorem pt_w (e : Expr) : PT X e (wT X e) := ⟨fun pins s _ _ _ I h => h pins s I⟩
theorem pw_w (e : Expr) : PW X e (wW X e) := ⟨fun wh pins s _ _ _ I h => h wh pins s I⟩
theorem pa_w (e : List Expr) : PA X e (wA X e) := ⟨fun pos pins s _ _ _ I h => h pos pins s I⟩
theorem ps_w (e : Stmt) : PS X e (wS X e) := ⟨fun pins s _ _ _ I h => h pins s I⟩
theorem pss_w (e : List Stmt) : PSs X e (wSs X e) := ⟨fun pins s _ _ _ I h => h pins s I⟩
theorem pg_w (e : Expr) : PG X e (wG X e) := ⟨fun pins s _ _ _ u _ I r h => h pins s u I r⟩
theorem to_wE {e : Expr} {t : TE} (h : PE X e t) {σ : L2.St} {H : Hp} {Q : VK} (q : t σ H Q) : wE X e σ H Q := fun pins s I => h.run pins s σ H Q I q
theorem to_wT {e : Expr} {t : TT} (h : PT X e t) {σ : L2.St} {H : Hp} {Q : Bool → Hp → Prop} (q : t σ H Q) : wT X e σ H Q := fun pins s I => h.run pins s σ H Q I q
theorem to_wW {e : Expr} {t : TT} (h : PW X e t) {σ : L2.St} {H : Hp} {Q : Bool → Hp → Prop} (q : t σ H Q) : wW X e σ H Q := fun wh pins s I => h.run wh pins s σ H Q I q
theorem to_wA {e : List Expr} {t : TA} (h : PA X e t) {σ : L2.St} {H : Hp} {Q : List V → Hp → Prop} (q : t σ H Q) : wA X e σ H Q := fun pos pins s I => h.run pos pins s σ H Q I q
theorem to_wS {e : Stmt} {t : TS} (h : PS X e t) {σ : L2.St} {H : Hp} {D : Ends} (q : t D σ H) : wS X e D σ H := fun pins s I => h.run pins s σ H D I q
theorem to_wSs {e : List Stmt} {t : TS} (h : PSs X e t) {σ : L2.St} {H : Hp} {D : Ends} (q : t D σ H) : wSs X e D σ H := fun pins s I => h.run pins s σ H D I q
theorem to_wG {e : Expr} {t : TG} (h : PG X e t) {v : V} {σ : L2.St} {H : Hp} {Q : L2.St → Hp → Prop} (q : t v σ H Q) : wG X e v σ H Q := fun pins s u I r => h.run pins s σ H v u Q I r q
theorem wE.imp {e : Expr} {σ : L2.St} {H : Hp} {Q Q' : VK} (h : wE X e σ H Q) (k : ∀ v H', Q v H' → Q' v H') : wE X e σ H Q' := fun pins s I =>
  thn (h pins s I) fun u s' ⟨v, H', I', r, q⟩ => ⟨v, H', I', r, k v H' q⟩
theorem wT.imp {e : Expr} {σ : L2.St} {H : Hp} {Q Q' : Bool → Hp → Prop} (h : wT X e σ H Q) (k : ∀ v H', Q v H' → Q' v H') : wT X e σ H Q' := fun pins s I =>
  thn (h pins s I) fun u s' ⟨H', I', q⟩ => ⟨H', I', k u H' q⟩
theorem wW.imp {e : Expr} {σ : L2.St} {H : Hp} {Q Q' : Bool → Hp → Prop} (h : wW X e σ H Q) (k : ∀ v H', Q v H' → Q' v H') : wW X e σ H Q' := fun wh pins s I =>
  thn (h wh pins s I) fun u s' ⟨H', I', q⟩ => ⟨H', I', k u H' q⟩
theorem wA.imp {e : List Expr} {σ : L2.St} {H : Hp} {Q Q' : List V → Hp → Prop} (h : wA X e σ H Q) (k : ∀ v H', Q v H' → Q' v H') : wA X e σ H Q' := fun pos pins s I =>
  thn (h pos pins s I) fun u s' ⟨v, H', I', r, q⟩ => ⟨v, H', I', r, k v H' q⟩
end
end M

namespace M
open PySem PySem.Spec PyProof.Rows L2

abbrev DS := List D
abbrev DE := DS → (D → DS → Prop) → Prop
abbrev DT := DS → (Bool → DS → Prop) → Prop
/-- what an expression has come to -/
def Res (X : Cx) (σ : L2.St) (F H : Hp) (M : List Addr) (Q : D → DS → Prop) : VK := fun v H' => ∃ d ds' F' N M', Wd F' H' (N ++ M') ∧ Tr F H M F' H' (N ++ M') ∧ Rp X.K F' H' d v N ∧ SR X.K F' H' ds' σ M' ∧ Q d ds'
def ResT (X : Cx) (σ : L2.St) (F H : Hp) (M : List Addr) (Q : Bool → DS → Prop) : Bool → Hp → Prop := fun b H' => ∃ ds' F' M', Wd F' H' M' ∧ Tr F H M F' H' M' ∧ SR X.K F' H' ds' σ M' ∧ Q b ds'
structure ME (X : Cx) (e : Expr) (w : DE) : Prop where
  run : ∀ {F H : Hp} {M : List Addr} {σ : L2.St} {ds : DS} {Q : D → DS → Prop}, Wd F H M → SR X.K F H ds σ M → w ds Q → wE X e σ H (Res X σ F H M Q)
structure MT (X : Cx) (e : Expr) (w : DT) : Prop where
  run : ∀ {F H : Hp} {M : List Addr} {σ : L2.St} {ds : DS} {Q : Bool → DS → Prop}, Wd F H M → SR X.K F H ds σ M → w ds Q → wT X e σ H (ResT X σ F H M Q)
structure MW (X : Cx) (e : Expr) (w : DT) : Prop where
  run : ∀ {F H : Hp} {M : List Addr} {σ : L2.St} {ds : DS} {Q : Bool → DS → Prop}, Wd F H M → SR X.K F H ds σ M → w ds Q → wW X e σ H (ResT X σ F H M Q)

/-! ### operands: a name is looked at when all are there -/
inductive Opd where
  | N (i : Nat) | E (w : DE)
inductive Tok where
  | n (i : Nat) | d (x : D)
def onAt (s : DS) (i : Nat) : Bool := match s[i]? with
  | none => false
  | some .off => false
  | some _ => true
def evO : Opd → DS → (Tok → DS → Prop) → Prop
  | .N i, s, k => onAt s i = true ∧ k (.n i) s
  | .E w, s, k => w s fun x s1 => k (.d x) s1
def Tok.at : Tok → DS → Option D
  | .n i, s => s[i]?
  | .d x, _ => some x
def evOs : List Opd → DS → (List Tok → DS → Prop) → Prop
  | [], s, k => k [] s
  | a :: r, s, k => evO a s fun t s1 => evOs r s1 fun ts s2 => k (t :: ts) s2
inductive TokR (K : PySem.W.Frag) (F H : Hp) (σ : L2.St) : Tok → V → List Addr → Prop
  | n {i : Nat} {v : V} : σ[i]? = some (some v) → TokR K F H σ (.n i) v []
  | d {x : D} {v : V} {N : List Addr} : Rp K F H x v N → TokR K F H σ (.d x) v N
inductive TokRs (K : PySem.W.Frag) (F H : Hp) (σ : L2.St) : List Tok → List V → List Addr → Prop
  | nil : TokRs K F H σ [] [] []
  | cons {t : Tok} {v : V} {ts : List Tok} {vs : List V} {N N' : List Addr} : TokR K F H σ t v N → TokRs K F H σ ts vs N' → TokRs K F H σ (t :: ts) (v :: vs) (N ++ N')
def ResO (X : Cx) (σ : L2.St) (F H : Hp) (M : List Addr) (k : Tok → DS → Prop) : VK := fun v H' => ∃ t ds' F' N M', Wd F' H' (N ++ M') ∧ Tr F H M F' H' (N ++ M') ∧ TokR X.K F' H' σ t v N ∧ SR X.K F' H' ds' σ M' ∧ k t ds'
def ResOs (X : Cx) (σ : L2.St) (F H : Hp) (M : List Addr) (k : List Tok → DS → Prop) : List V → Hp → Prop := fun vs H' => ∃ ts ds' F' N M', Wd F' H' (N ++ M') ∧ Tr F H M F' H' (N ++ M') ∧ TokRs X.K F' H' σ ts vs N ∧ SR X.K F' H' ds' σ M' ∧ k ts ds'
structure MO (X : Cx) (e : Expr) (o : Opd) : Prop where
  run : ∀ {F H : Hp} {M : List Addr} {σ : L2.St} {ds : DS} {k : Tok → DS → Prop}, Wd F H M → SR X.K F H ds σ M → evO o ds k → wE X e σ H (ResO X σ F H M k)
structure MOs (X : Cx) (es : List Expr) (os : List Opd) : Prop where
  run : ∀ {F H : Hp} {M : List Addr} {σ : L2.St} {ds : DS} {k : List Tok → DS → Prop}, Wd F H M → SR X.K F H ds σ M → evOs os ds k → wA X es σ H (ResOs X σ F H M k)

section
variable {K : PySem.W.Frag} {F H F' H' F'' H'' : Hp} {A B C M N R M' M'' N' : List Addr} {σ : L2.St} {ds ds' : DS}
/-- something beside, then on -/
structure Next (F H : Hp) (M : List Addr) (F1 H1 : Hp) (N M1 : List Addr) (F2 H2 : Hp) (N2 M2 : List Addr) : Prop where
  wd : Wd F2 H2 ((N ++ N2) ++ M2)
  tr : Tr F H M F2 H2 ((N ++ N2) ++ M2)
  same : ∀ a ∈ N, H2 a = H1 a
  up : ∀ a u, F1 a = some u → F2 a = some u
theorem next {F1 H1 F2 H2 : Hp} {N M1 N2 M2 : List Addr} (w0 : Wd F H M) (w1 : Wd F1 H1 (N ++ M1)) (t1 : Tr F H M F1 H1 (N ++ M1)) (w2 : Wd F2 H2 (N2 ++ M2)) (t2 : Tr F1 H1 M1 F2 H2 (N2 ++ M2)) : Next F H M F1 H1 N M1 F2 H2 N2 M2 := by
  have w1' : Wd F1 H1 (M1 ++ N) := w1.perm List.perm_append_comm
  have b := frame w1' t2 w2
  have p : ((N ++ N2) ++ M2).Perm ((N2 ++ M2) ++ N) := by
    rw [List.append_assoc]; exact List.perm_append_comm
  refine ⟨b.wd.perm p, ?_, b.same, t2.up⟩
  have t2' : Tr F1 H1 (N ++ M1) F2 H2 ((N ++ N2) ++ M2) := (b.tr.wide fun a h => (List.perm_append_comm.mem_iff).mp h).drop fun a h => p.mem_iff.mp h
  exact t1.trans w0 w1 t2'
theorem onAt_some {s : DS} {i : Nat} (h : onAt s i = true) : ∃ d, s[i]? = some d ∧ d ≠ .off := by
  unfold onAt at h
  cases e : s[i]? with
  | none => rw [e] at h; cases h
  | some d =>
    refine ⟨d, rfl, fun z => ?_⟩
    subst z
    rw [e] at h; cases h
theorem SR.at (h : SR K F H ds σ M) {i : Nat} {d : D} (e : ds[i]? = some d) (ho : d ≠ .off) : ∃ v N, σ[i]? = some (some v) ∧ Rp K F H d v N ∧ (∀ a ∈ N, a ∈ M) := by
  obtain ⟨x, N, R, e1, r, p, _⟩ := h.take e
  cases r with
  | any => exact absurd rfl ho
  | on r => exact ⟨_, N, e1, r, fun a q => p.mem_iff.mpr (List.mem_append_left _ q)⟩
theorem TokR.mono {t : Tok} {v : V} (up : ∀ a u, F a = some u → F' a = some u) (h : TokR K F H σ t v N) (k : ∀ a ∈ N, H' a = H a) : TokR K F' H' σ t v N := by
  cases h with
  | n e => exact .n e
  | d r => exact .d (r.mono up k)
theorem TokRs.mono (up : ∀ a u, F a = some u → F' a = some u) : ∀ {ts : List Tok} {vs : List V} {N : List Addr}, TokRs K F H σ ts vs N → (∀ a ∈ N, H' a = H a) → TokRs K F' H' σ ts vs N
  | _, _, _, .nil, _ => .nil
  | _, _, _, .cons h l, k => .cons (h.mono up fun a q => k a (List.mem_append_left _ q)) (TokRs.mono up l fun a q => k a (List.mem_append_right _ q))
/-- a token is looked at -/
theorem TokR.look {t : Tok} {v : V} {d : D} (h : TokR K F H σ t v N) (s : SR K F H ds σ M) (e : t.at ds = some d) (ho : d ≠ .off) : ∃ A, Rp K F H d v A ∧ ∀ a ∈ A, a ∈ N ++ M := by
  cases h with
  | n e1 =>
    obtain ⟨v', A, e2, r, k⟩ := s.at e ho
    rw [e1] at e2
    cases e2
    exact ⟨A, r, fun a q => List.mem_append_right _ (k a q)⟩
  | d r =>
    cases (Option.some.inj e)
    exact ⟨N, r, fun a q => List.mem_append_left _ q⟩
def ats (ts : List Tok) (s : DS) : Option (List D) := ts.mapM fun t => t.at s
end

section
variable {X : Cx} {e a b : Expr} {pos : Pos}
theorem MO.of {w : DE} (h : ME X e w) : MO X e (.E w) := ⟨fun w0 s0 q => (h.run w0 s0 (Q := fun x s1 => _) q).imp fun v H' ⟨d, ds', F', N, M', w1, t1, r, s1, k⟩ => ⟨.d d, ds', F', N, M', w1, t1, .d r, s1, k⟩⟩
theorem mo_name {i : Nat} {x : Str} (hN : X.N[i]? = some x := by rfl) (hv : Vis X.env.scope x := by first | exact Or.inl rfl | exact Or.inr (Or.inl rfl) | exact Or.inr (Or.inr rfl)) (hd : (x == ("__debug__" : Str)) = false := by decide)
    (hcd : (x == ("__classdict__" : Str)) = false := by decide) : MO X (.Name x pos) (.N i) := ⟨fun {F H M σ ds k} w0 s0 q => by
  obtain ⟨h1, q⟩ := q
  obtain ⟨d, e1, ho⟩ := onAt_some h1
  obtain ⟨v, A, e2, r, _⟩ := s0.at e1 ho
  exact to_wE (pe_var hN hv hd hcd) ⟨v, e2, .n i, ds, F, [], M, w0, Tr.refl F H M, .n e2, s0, q⟩⟩
theorem mos_nil : MOs X [] [] := ⟨fun {F H M σ ds k} w0 s0 q => to_wA pa_nil (show ResOs X σ F H M k [] H from ⟨[], ds, F, [], M, w0, Tr.refl F H M, .nil, s0, q⟩)⟩
theorem mos_cons {es : List Expr} {o : Opd} {os : List Opd} (h1 : MO X e o) (h2 : MOs X es os) (hs : starEach (e :: es) X.env = (false, eval e X.env) :: starEach es X.env := by rfl) : MOs X (e :: es) (o :: os) := ⟨fun {F H M σ ds k} w0 s0 q => by
  refine to_wA (pa_cons (pe_w e) (pa_w es) hs) ?_
  refine (h1.run w0 s0 (k := fun t s1 => _) q).imp fun v H1 ⟨t, ds1, F1, N, M1, w1, t1, r1, s1, k1⟩ => ?_
  refine (h2.run (w1.part (List.sublist_append_right _ _)) s1 k1).imp fun vs H2 ⟨ts, ds2, F2, N2, M2, w2, t2, r2, s2, k2⟩ => ?_
  have n := next w0 w1 t1 w2 t2
  exact ⟨t :: ts, ds2, F2, N ++ N2, M2, n.wd, n.tr, .cons (r1.mono n.up n.same) r2, s2, k2⟩⟩

/-! ### operators by data -/
theorem OpR.post {X : Cx} {f : Value → Value → Sem Value} {r : R2} (h : OpR X f r) {k : VK} : OpR X f (fun v u H Q => r v u H k ∧ ∀ z H', k z H' → Q z H') := fun pins s σ H x y v u Q I rx ry q =>
  thn (h pins s σ H x y v u k I rx ry q.1) fun w s' ⟨z, H', I', r', q'⟩ => ⟨z, H', I', r', q.2 z H' q'⟩
/-- what a reading operation makes of data: something new beside, all else as it is -/
def Made (X : Cx) (F H : Hp) (Q : D → Prop) : VK := fun z H' => ∃ d F' N, Wd F' H' N ∧ Tr F H [] F' H' N ∧ Rp X.K F' H' d z N ∧ Q d
abbrev Op1 := D → (D → Prop) → Prop
abbrev Op2 := D → D → (D → Prop) → Prop
abbrev OpL := List D → (D → Prop) → Prop
def OpM (X : Cx) (f : Value → Value → Sem Value) (o : Op2) : Prop := ∀ {F H : Hp} {M A B : List Addr} {x y : D} {v u : V} {Q : D → Prop} {k : VK}, Wd F H M → Rp X.K F H x v A → Rp X.K F H y u B → (∀ a ∈ A, a ∈ M) → (∀ a ∈ B, a ∈ M) → o x y Q →
  (∀ z H', Made X F H Q z H' → k z H') → ∃ r, OpR X f r ∧ r v u H k
def UnM (X : Cx) (f : Value → Sem Value) (o : Op1) : Prop := ∀ {F H : Hp} {M A : List Addr} {x : D} {v : V} {Q : D → Prop} {k : VK}, Wd F H M → Rp X.K F H x v A → (∀ a ∈ A, a ∈ M) → o x Q → (∀ z H', Made X F H Q z H' → k z H') → ∃ r, UnR X f r ∧ r v H k
def CallM (X : Cx) (f : Value) (o : OpL) : Prop := ∀ {F H : Hp} {M A : List Addr} {xs : List D} {vs : List V} {Q : D → Prop} {k : VK}, Wd F H M → RpL X.K F H xs vs A → (∀ a ∈ A, a ∈ M) → o xs Q → (∀ z H', Made X F H Q z H' → k z H') → ∃ r, CallR X f r ∧ r vs H k
theorem opU (f : Value → Value → Sem Value) : OpR X f (fun v u H Q => ∃ r, OpR X f r ∧ r v u H Q) := fun pins s σ H x y v u Q I rx ry ⟨r, h, q⟩ => h pins s σ H x y v u Q I rx ry q
theorem unU (f : Value → Sem Value) : UnR X f (fun v H Q => ∃ r, UnR X f r ∧ r v H Q) := fun pins s σ H x v Q I rx ⟨r, h, q⟩ => h pins s σ H x v Q I rx q
theorem callU (f : Value) : CallR X f (fun vs H Q => ∃ r, CallR X f r ∧ r vs H Q) := fun pins s σ H xs us Q I rx ⟨r, h, q⟩ => h pins s σ H xs us Q I rx q
def on : D → Bool
  | .off => false
  | _ => true
theorem on_ne {d : D} (h : on d = true) : d ≠ .off := fun z => by subst z; cases h
def wop2 (o : Op2) (a b : Opd) : DE := fun s Q => evO a s fun t s1 => evO b s1 fun u s2 => ∃ x y, t.at s2 = some x ∧ u.at s2 = some y ∧ on x = true ∧ on y = true ∧ o x y fun z => Q z s2
def wop1 (o : Op1) (a : Opd) : DE := fun s Q => evO a s fun t s1 => ∃ x, t.at s1 = some x ∧ on x = true ∧ o x fun z => Q z s1
def wopL (o : OpL) (as : List Opd) : DE := fun s Q => evOs as s fun ts s1 => ∃ xs, ats ts s1 = some xs ∧ xs.all on = true ∧ o xs fun z => Q z s1
theorem made_res {F H F1 H1 : Hp} {M N M1 : List Addr} {σ : L2.St} {ds : DS} {Q : D → DS → Prop} (w0 : Wd F H M) (w1 : Wd F1 H1 (N ++ M1)) (t1 : Tr F H M F1 H1 (N ++ M1)) (s1 : SR X.K F1 H1 ds σ M1) {z : V} {H2 : Hp}
    (h : Made X F1 H1 (fun d => Q d ds) z H2) : Res X σ F H M Q z H2 := by
  obtain ⟨d, F2, N2, w2, t2, r2, q⟩ := h
  have b := frame (A := []) (R := N ++ M1) w1 t2 w2
  have hs : (N2 ++ M1).Sublist (N2 ++ (N ++ M1)) := List.Sublist.append_left (List.sublist_append_right _ _) _
  exact ⟨d, ds, F2, N2, M1, b.wd.part hs, (t1.trans w0 w1 b.tr).drop fun a q => hs.subset q, r2, s1.mono t2.up fun a q => b.same a (List.mem_append_right _ q), q⟩
theorem two {o : Op2} {oa ob : Opd} {f : Value → Value → Sem Value} (ha : MO X a oa) (hb : MO X b ob) (ho : OpM X f o) {F H : Hp} {M : List Addr} {σ : L2.St} {ds : DS} {Q : D → DS → Prop} (w0 : Wd F H M) (s0 : SR X.K F H ds σ M) (q : wop2 o oa ob ds Q) :
    tOp (fun v u H Q => ∃ r, OpR X f r ∧ r v u H Q) (wE X a) (wE X b) σ H (Res X σ F H M Q) := by
  refine (ha.run w0 s0 (k := fun t s1 => _) q).imp fun v H1 ⟨t, ds1, F1, N, M1, w1, t1, r1, s1, k1⟩ => ?_
  refine (hb.run (w1.part (List.sublist_append_right _ _)) s1 (k := fun t s1 => _) k1).imp fun u H2 ⟨t', ds2, F2, N2, M2, w2, t2, r2, s2, k2⟩ => ?_
  have n := next w0 w1 t1 w2 t2
  obtain ⟨x, y, e1, e2, o1, o2, k2⟩ := k2
  obtain ⟨A, ra, sa⟩ := (r1.mono n.up n.same).look s2 e1 (on_ne o1)
  obtain ⟨B, rb, sb⟩ := r2.look s2 e2 (on_ne o2)
  exact ho n.wd ra rb (fun a h => by have := sa a h; simp only [List.mem_append] at this ⊢; rcases this with h | h <;> simp [h]) (fun a h => by have := sb a h; simp only [List.mem_append] at this ⊢; rcases this with h | h <;> simp [h]) k2
    fun z H3 m => made_res w0 n.wd n.tr s2 m
theorem one {o : Op1} {oa : Opd} (ha : MO X a oa) {R : V → Hp → VK → Prop} (ho : ∀ {F H : Hp} {M A : List Addr} {x : D} {v : V} {Q : D → Prop} {k : VK}, Wd F H M → Rp X.K F H x v A → (∀ a ∈ A, a ∈ M) → o x Q → (∀ z H', Made X F H Q z H' → k z H') → R v H k)
    {F H : Hp} {M : List Addr} {σ : L2.St} {ds : DS} {Q : D → DS → Prop} (w0 : Wd F H M) (s0 : SR X.K F H ds σ M) (q : wop1 o oa ds Q) : wE X a σ H (fun v H1 => R v H1 (Res X σ F H M Q)) := by
  refine (ha.run w0 s0 (k := fun t s1 => _) q).imp fun v H1 ⟨t, ds1, F1, N, M1, w1, t1, r1, s1, k1⟩ => ?_
  obtain ⟨x, e1, o1, k1⟩ := k1
  obtain ⟨A, ra, sa⟩ := r1.look s1 e1 (on_ne o1)
  exact ho w1 ra sa k1 fun z H3 m => made_res w0 w1 t1 s1 m
theorem TokRs.look {K : PySem.W.Frag} {F H : Hp} {σ : L2.St} {ds : DS} {M : List Addr} (s : SR K F H ds σ M) : ∀ {ts : List Tok} {vs : List V} {N : List Addr} {xs : List D}, TokRs K F H σ ts vs N → ats ts ds = some xs → xs.all on = true → ∃ A, RpL K F H xs vs A ∧ ∀ a ∈ A, a ∈ N ++ M
  | _, _, _, xs, .nil, e, _ => by
    cases (show some [] = some xs from e)
    exact ⟨[], .nil, fun a h => nomatch h⟩
  | _, _, _, xs, .cons (t := t) (ts := ts) h l, e, o => by
    unfold ats at e
    rw [List.mapM_cons] at e
    cases e1 : t.at ds with
    | none => rw [e1] at e; cases e
    | some x =>
      cases e2 : ats ts ds with
      | none => unfold ats at e2; rw [e1, e2] at e; cases e
      | some r =>
        have e2' := e2
        unfold ats at e2
        rw [e1, e2] at e
        have e' : some (x :: r) = some xs := e
        cases e'
        rw [List.all_cons, Bool.and_eq_true] at o
        obtain ⟨A, ra, sa⟩ := h.look s e1 (on_ne o.1)
        obtain ⟨B, rb, sb⟩ := TokRs.look s l e2' o.2
        refine ⟨A ++ B, .cons ra rb, fun a h => ?_⟩
        rcases List.mem_append.mp h with h | h
        · have := sa a h; simp only [List.mem_append] at this ⊢; rcases this with h | h <;> simp [h]
        · have := sb a h; simp only [List.mem_append] at this ⊢; rcases this with h | h <;> simp [h]
theorem many {o : OpL} {es : List Expr} {os : List Opd} (ha : MOs X es os) {R : List V → Hp → VK → Prop} (ho : ∀ {F H : Hp} {M A : List Addr} {xs : List D} {vs : List V} {Q : D → Prop} {k : VK}, Wd F H M → RpL X.K F H xs vs A → (∀ a ∈ A, a ∈ M) → o xs Q → (∀ z H', Made X F H Q z H' → k z H') → R vs H k)
    {F H : Hp} {M : List Addr} {σ : L2.St} {ds : DS} {Q : D → DS → Prop} (w0 : Wd F H M) (s0 : SR X.K F H ds σ M) (q : wopL o os ds Q) : wA X es σ H (fun vs H1 => R vs H1 (Res X σ F H M Q)) := by
  refine (ha.run w0 s0 (k := fun t s1 => _) q).imp fun v H1 ⟨ts, ds1, F1, N, M1, w1, t1, r1, s1, k1⟩ => ?_
  obtain ⟨xs, e1, o1, k1⟩ := k1
  obtain ⟨A, ra, sa⟩ := r1.look s1 e1 o1
  exact ho w1 ra sa k1 fun z H3 m => made_res w0 w1 t1 s1 m

theorem me_bin {op : Operator} {o : Op2} {oa ob : Opd} (ho : OpM X (binaryOp op) o) (ha : MO X a oa) (hb : MO X b ob) : ME X (.BinOp a op b pos) (wop2 o oa ob) := ⟨fun w0 s0 q => to_wE (pe_op (opU _) (pe_w a) (pe_w b)) (two ha hb ho w0 s0 q)⟩
theorem me_cmp {op : CmpOp} {o : Op2} {oa ob : Opd} (ho : OpM X (compareOp op) o) (ha : MO X a oa) (hb : MO X b ob) (hm : behindInMarks op b = false := by first | exact nomark _ | rfl) : ME X (.Compare a [op] [b] pos) (wop2 o oa ob) :=
  ⟨fun w0 s0 q => to_wE (pe_cmpR (opU _) (pe_w a) (pe_w b) hm) (two ha hb ho w0 s0 q)⟩
theorem me_un {op : UnaryOp} {o : Op1} {oa : Opd} (ho : UnM X (unaryOp op) o) (ha : MO X a oa) : ME X (.UnaryOp op a pos) (wop1 o oa) := ⟨fun w0 s0 q => to_wE (pe_un (unU _) (pe_w a)) (one ha (R := fun v H k => ∃ r, UnR X _ r ∧ r v H k) ho w0 s0 q)⟩
theorem me_callB {id : String} {x : Str} {p : Pos} {es : List Expr} {o : OpL} {os : List Opd} (ho : CallM X (.builtin id) o) (hm : X.mg x = none) (ha : MOs X (e :: es) os) (hg : Gl X x := by rfl) (hv : bootBuiltins x = some (.builtin id) := by decide +kernel) (hn : x ≠ "__name__" := by decide) (hdb : (x == ("__debug__" : Str)) = false := by decide)
    (he : starEach (e :: es) X.env = (false, eval e X.env) :: starEach es X.env := by rfl) (hpl : (backTo pos (starEach es X.env)).any (·.1) = false := by rfl) : ME X (.Call (.Name x p) (e :: es) [] pos) (wopL o os) :=
  ⟨fun w0 s0 q => to_wE (pe_callB (callU _) hg hm hv (pa_w _) hn hdb he hpl) (many ha (R := fun v H k => ∃ r, CallR X _ r ∧ r v H k) ho w0 s0 q)⟩
theorem me_callTy {T : String} {x : Str} {p : Pos} {es : List Expr} {o : OpL} {os : List Opd} (ho : CallM X (.type T) o) (hm : X.mg x = none) (ha : MOs X (e :: es) os) (hg : Gl X x := by rfl) (hv : bootBuiltins x = some (.type T) := by decide +kernel) (hn : x ≠ "__name__" := by decide) (hdb : (x == ("__debug__" : Str)) = false := by decide)
    (he : starEach (e :: es) X.env = (false, eval e X.env) :: starEach es X.env := by rfl) (hpl : (backTo pos (starEach es X.env)).any (·.1) = false := by rfl) : ME X (.Call (.Name x p) (e :: es) [] pos) (wopL o os) :=
  ⟨fun w0 s0 q => to_wE (pe_callTy (callU _) hg hm hv (pa_w _) hn hdb he hpl) (many ha (R := fun v H k => ∃ r, CallR X _ r ∧ r v H k) ho w0 s0 q)⟩

/-! ### names and constants as values -/
def wc (d : D) : DE := fun s Q => Q d s
def wvar (i : Nat) : DE := fun s Q => ∃ d, s[i]? = some d ∧ on d = true ∧ Q (fz d) (s.set i (fz d))
def wmov (i : Nat) : DE := fun s Q => ∃ d, s[i]? = some d ∧ on d = true ∧ Q d (s.set i .off)
theorem res_c {F H : Hp} {M : List Addr} {σ : L2.St} {ds : DS} {Q : D → DS → Prop} (w0 : Wd F H M) (s0 : SR X.K F H ds σ M) {d : D} {v : V} (r : Rp X.K F H d v []) (q : Q d ds) : Res X σ F H M Q v H := ⟨d, ds, F, [], M, w0, Tr.refl F H M, r, s0, q⟩
theorem me_int {i : Int} {j : Nat} : ME X (.Constant (.int i) j pos) (wc (.int i)) := ⟨fun w0 s0 q => to_wE pe_int (show Res X _ _ _ _ _ (.int i) _ from res_c w0 s0 (.int i) q)⟩
theorem me_bl {i : Bool} {j : Nat} : ME X (.Constant (.bool i) j pos) (wc (.bl i)) := ⟨fun w0 s0 q => to_wE pe_bl (show Res X _ _ _ _ _ (.bl i) _ from res_c w0 s0 (.bl i) q)⟩
theorem me_non {j : Nat} : ME X (.Constant .none j pos) (wc .non) := ⟨fun w0 s0 q => to_wE pe_non (show Res X _ _ _ _ _ .non _ from res_c w0 s0 .non q)⟩
theorem me_str {i : Str} {j : Nat} : ME X (.Constant (.str i) j pos) (wc (.str i)) := ⟨fun w0 s0 q => to_wE pe_str (show Res X _ _ _ _ _ (.str i) _ from res_c w0 s0 (.str i) q)⟩
theorem setσ {σ : L2.St} {i : Nat} {x : Option V} (h : σ[i]? = some x) : σ.set i x = σ := by
  apply List.ext_getElem?
  intro j
  by_cases e : j = i
  · subst e
    obtain ⟨hl, _⟩ := List.getElem?_eq_some_iff.mp h
    rw [List.getElem?_set_self hl, h]
  · rw [List.getElem?_set_ne (Ne.symm e)]
theorem me_var {i : Nat} {x : Str} (hN : X.N[i]? = some x := by rfl) (hv : Vis X.env.scope x := by first | exact Or.inl rfl | exact Or.inr (Or.inl rfl) | exact Or.inr (Or.inr rfl)) (hd : (x == ("__debug__" : Str)) = false := by decide)
    (hcd : (x == ("__classdict__" : Str)) = false := by decide) : ME X (.Name x pos) (wvar i) := ⟨fun {F H M σ ds Q} w0 s0 q => by
  obtain ⟨d, e1, ho, q⟩ := q
  obtain ⟨x', N, R, e2, r, p, put⟩ := s0.take e1
  cases r with
  | any => cases ho
  | on r =>
    rename_i v
    refine to_wE (pe_var hN hv hd hcd) ⟨v, e2, ?_⟩
    have w1 : Wd F H (N ++ R) := w0.perm p.symm
    have wN : Wd F H N := w1.part (List.sublist_append_left _ _)
    have b := frame w1 (ice_tr wN.fr) (ice_wd wN)
    have r' : Rp X.K (ice F H N) H (fz d) v [] := r.ice wN.fr fun a h => h
    obtain ⟨M', p', s'⟩ := put (ice F H N) H (fz d) (some v) [] (ice_up wN.fr) (fun _ _ => rfl) (.on r')
    rw [setσ e2] at s'
    have pw : M'.Perm R := p'
    refine ⟨fz d, _, ice F H N, [], M', (b.wd.perm pw), ?_, r', s', q⟩
    exact (b.tr.wide fun a h => p.mem_iff.mpr h).drop fun a h => pw.mem_iff.mp h⟩
theorem me_mov {i : Nat} {x : Str} (hN : X.N[i]? = some x := by rfl) (hv : Vis X.env.scope x := by first | exact Or.inl rfl | exact Or.inr (Or.inl rfl) | exact Or.inr (Or.inr rfl)) (hd : (x == ("__debug__" : Str)) = false := by decide)
    (hcd : (x == ("__classdict__" : Str)) = false := by decide) : ME X (.Name x pos) (wmov i) := ⟨fun {F H M σ ds Q} w0 s0 q => by
  obtain ⟨d, e1, ho, q⟩ := q
  obtain ⟨x', N, R, e2, r, p, put⟩ := s0.take e1
  cases r with
  | any => cases ho
  | on r =>
    rename_i v
    refine to_wE (pe_var hN hv hd hcd) ⟨v, e2, ?_⟩
    obtain ⟨M', p', s'⟩ := put F H .off (some v) [] (fun _ _ h => h) (fun _ _ => rfl) (.any _)
    rw [setσ e2] at s'
    have pw : (N ++ M').Perm M := (List.Perm.append_left N p').trans p.symm
    exact ⟨d, _, F, N, M', w0.perm pw, (Tr.refl F H M).drop fun a h => pw.mem_iff.mp h, r, s', q⟩⟩

/-! ### lists of values -/
abbrev DA := DS → (List D → DS → Prop) → Prop
def wnil : DA := fun s Q => Q [] s
def wcons (a : DE) (r : DA) : DA := fun s Q => a s fun x s1 => r s1 fun xs s2 => Q (x :: xs) s2
def ResL (X : Cx) (σ : L2.St) (F H : Hp) (M : List Addr) (n : Nat) (Q : List D → DS → Prop) : List V → Hp → Prop := fun v H' => ∃ d ds' F' N M', v.length = n ∧ Wd F' H' (N ++ M') ∧ Tr F H M F' H' (N ++ M') ∧ RpL X.K F' H' d v N ∧ SR X.K F' H' ds' σ M' ∧ Q d ds'
structure MEs (X : Cx) (es : List Expr) (w : DA) : Prop where
  run : ∀ {F H : Hp} {M : List Addr} {σ : L2.St} {ds : DS} {Q : List D → DS → Prop}, Wd F H M → SR X.K F H ds σ M → w ds Q → wA X es σ H (ResL X σ F H M es.length Q)
theorem mes_nil : MEs X [] wnil := ⟨fun {F H M σ ds k} w0 s0 q => to_wA pa_nil (show ResL X σ F H M 0 k [] H from ⟨[], ds, F, [], M, rfl, w0, Tr.refl F H M, .nil, s0, q⟩)⟩
theorem mes_cons {es : List Expr} {o : DE} {os : DA} (h1 : ME X e o) (h2 : MEs X es os) (hs : starEach (e :: es) X.env = (false, eval e X.env) :: starEach es X.env := by rfl) : MEs X (e :: es) (wcons o os) := ⟨fun {F H M σ ds k} w0 s0 q => by
  refine to_wA (pa_cons (pe_w e) (pa_w es) hs) ?_
  refine (h1.run w0 s0 (Q := fun t s1 => _) q).imp fun v H1 ⟨t, ds1, F1, N, M1, w1, t1, r1, s1, k1⟩ => ?_
  refine (h2.run (w1.part (List.sublist_append_right _ _)) s1 k1).imp fun vs H2 ⟨ts, ds2, F2, N2, M2, hl, w2, t2, r2, s2, k2⟩ => ?_
  have n := next w0 w1 t1 w2 t2
  exact ⟨t :: ts, ds2, F2, N ++ N2, M2, congrArg (· + 1) hl, n.wd, n.tr, .cons (r1.mono n.up n.same) r2, s2, k2⟩⟩
/-- a new object p, owned -/
theorem new_own {F H : Hp} {M : List Addr} {p : Addr} {o : HO} (w : Wd F H M) (hp : H p = none) : Wd F (upd H p o) (p :: M) ∧ Tr F H M F (upd H p o) (p :: M) ∧ (∀ a ∈ M, upd H p o a = H a) := by
  have ne : ∀ a, H a ≠ none → a ≠ p := fun a h z => h (z ▸ hp)
  have Fp : F p = none := by
    cases e : F p with
    | none => rfl
    | some u => rcases w.sub p u e with q | ⟨_, _, q⟩ <;> (rw [hp] at q; cases q)
  have hM : ∀ a ∈ M, a ≠ p := fun a h => ne a (w.th a h)
  refine ⟨⟨fun a u h => ?_, List.nodup_cons.mpr ⟨fun z => hM p z rfl, w.nd⟩, fun a h => ?_, fun a h => ?_⟩, ⟨fun _ _ h => h, fun _ h => .inl h, fun a h => ?_, fun a u h _ _ => ?_⟩, fun a h => upd_ne (hM a h)⟩
  · have : a ≠ p := fun z => by rw [z, Fp] at h; cases h
    rw [upd_ne this]; exact w.sub a u h
  · rcases List.mem_cons.mp h with rfl | h
    · exact Fp
    · exact w.fr a h
  · rcases List.mem_cons.mp h with rfl | h
    · rw [upd_same]; exact fun z => nomatch z
    · rw [upd_ne (hM a h)]; exact w.th a h
  · rcases List.mem_cons.mp h with rfl | h
    · exact .inr hp
    · exact .inl h
  · rw [upd_ne (ne a (by rw [h]; exact fun z => nomatch z))]; exact h
/-- a new object p, frozen -/
theorem new_ice {F H : Hp} {M : List Addr} {p : Addr} {o : HO} (w : Wd F H M) (hp : H p = none) : Wd (upd F p o) (upd H p o) M ∧ Tr F H M (upd F p o) (upd H p o) M ∧ (∀ a ∈ M, upd H p o a = H a) ∧ (∀ a u, F a = some u → upd F p o a = some u) := by
  have ne : ∀ a, H a ≠ none → a ≠ p := fun a h z => h (z ▸ hp)
  have Fp : F p = none := by
    cases e : F p with
    | none => rfl
    | some u => rcases w.sub p u e with q | ⟨_, _, q⟩ <;> (rw [hp] at q; cases q)
  have hM : ∀ a ∈ M, a ≠ p := fun a h => ne a (w.th a h)
  have up : ∀ a u, F a = some u → upd F p o a = some u := fun a u h => by
    have : a ≠ p := fun z => by rw [z, Fp] at h; cases h
    rw [upd_ne this]; exact h
  refine ⟨⟨fun a u h => ?_, w.nd, fun a h => ?_, fun a h => ?_⟩, ⟨up, fun a h => ?_, fun a h => .inl h, fun a u h _ _ => ?_⟩, fun a h => upd_ne (hM a h), up⟩
  · by_cases q : a = p
    · subst q; rw [upd_same] at h ⊢; exact .inl h
    · rw [upd_ne q] at h ⊢; exact w.sub a u h
  · rw [upd_ne (hM a h)]; exact w.fr a h
  · rw [upd_ne (hM a h)]; exact w.th a h
  · by_cases q : a = p
    · subst q; exact .inr (.inr hp)
    · rw [upd_ne q] at h; exact .inl h
  · rw [upd_ne (ne a (by rw [h]; exact fun z => nomatch z))]; exact h
def wtup (r : DA) : DE := fun s Q => r s fun xs s1 => Q (.tup xs) s1
def wlst (r : DA) : DE := fun s Q => r s fun xs s1 => Q (.lst true xs) s1
theorem me_tup {es : List Expr} {r : DA} {x1 : Nat} (h : MEs X es r) (hl : es.length ≤ 1000 := by decide) : ME X (.Tuple es x1 pos) (wtup r) := ⟨fun {F H M σ ds Q} w0 s0 q => by
  refine to_wE (pe_tup (pa_w es)) ?_
  refine (h.run w0 s0 (Q := fun xs s1 => Q (.tup xs) s1) q).imp fun vs H1 ⟨xs, ds1, F1, N, M1, hv, w1, t1, r1, s1, k1⟩ => ?_
  refine ⟨by rw [hv, sizeLine_eq]; omega, fun p hp => ?_⟩
  obtain ⟨w2, t2, e2, u2⟩ := new_ice (o := .tup vs) w1 hp
  exact ⟨.tup xs, ds1, _, N, M1, w2, t1.trans w0 w1 t2, .tup (SqT.of upd_same) (r1.mono u2 fun a q => e2 a (List.mem_append_left _ q)), s1.mono u2 fun a q => e2 a (List.mem_append_right _ q), k1⟩⟩
theorem me_lst {es : List Expr} {r : DA} (h : MEs X es r) (hl : es.length ≤ 1000 := by decide) : ME X (.List es pos) (wlst r) := ⟨fun {F H M σ ds Q} w0 s0 q => by
  refine to_wE (pe_lst (pa_w es)) ?_
  refine (h.run w0 s0 (Q := fun xs s1 => Q (.lst true xs) s1) q).imp fun vs H1 ⟨xs, ds1, F1, N, M1, hv, w1, t1, r1, s1, k1⟩ => ?_
  refine ⟨by rw [hv, sizeLine_eq]; omega, fun p hp => ?_⟩
  obtain ⟨w2, t2, e2⟩ := new_own (o := .lst vs) w1 hp
  have u2 : ∀ a u, F1 a = some u → F1 a = some u := fun _ _ h => h
  exact ⟨.lst true xs, ds1, _, p :: N, M1, w2, t1.trans w0 w1 t2, .lstO upd_same (r1.mono u2 fun a q => e2 a (List.mem_append_left _ q)), s1.mono u2 fun a q => e2 a (List.mem_append_right _ q), k1⟩⟩
/-- a value's own parts are frozen -/
def wfz (a : DE) : DE := fun s Q => a s fun x s1 => Q (fz x) s1
theorem me_fz {w : DE} (h : ME X e w) : ME X e (wfz w) := ⟨fun {F H M σ ds Q} w0 s0 q => (h.run w0 s0 (Q := fun x s1 => Q (fz x) s1) q).imp fun v H1 ⟨d, ds1, F1, N, M1, w1, t1, r1, s1, k1⟩ => by
  have wN : Wd F1 H1 N := w1.part (List.sublist_append_left _ _)
  have b := frame w1 (ice_tr wN.fr) (ice_wd wN)
  exact ⟨fz d, ds1, ice F1 H1 N, [], M1, b.wd, t1.trans w0 w1 b.tr, r1.ice wN.fr fun a h => h, s1.mono (ice_up wN.fr) fun _ _ => rfl, k1⟩⟩
/-- one's own weakening -/
theorem ME.imp {w w' : DE} (h : ME X e w) (k : ∀ s Q, w' s Q → w s Q) : ME X e w' := ⟨fun w0 s0 q => h.run w0 s0 (k _ _ q)⟩

/-! ### and, or, not, if as values -/
def wand (a b : DE) : DE := fun s Q => a s fun x s1 => ∃ c, x = .bl c ∧ if c = true then b s1 Q else Q (.bl false) s1
def wor (a b : DE) : DE := fun s Q => a s fun x s1 => ∃ c, x = .bl c ∧ if c = true then Q (.bl true) s1 else b s1 Q
def wnot (a : DE) : DE := fun s Q => a s fun x s1 => ∃ c, x = .bl c ∧ Q (.bl (!c)) s1
def wif (t : DT) (a b : DE) : DE := fun s Q => t s fun c s1 => if c = true then a s1 Q else b s1 Q
theorem res_bl {F H : Hp} {c : Bool} {v : V} {N : List Addr} {K : PySem.W.Frag} (r : Rp K F H (.bl c) v N) : v = .bl c ∧ N = [] := by
  cases r; exact ⟨rfl, rfl⟩
theorem Res.step {F H F1 H1 : Hp} {M M1 : List Addr} {σ : L2.St} {Q : D → DS → Prop} (w0 : Wd F H M) (w1 : Wd F1 H1 M1) (t1 : Tr F H M F1 H1 M1) {v : V} {H' : Hp} (h : Res X σ F1 H1 M1 Q v H') : Res X σ F H M Q v H' := by
  obtain ⟨d, ds', F', N, M', w', t', r', s', q⟩ := h
  exact ⟨d, ds', F', N, M', w', t1.trans w0 w1 t', r', s', q⟩
theorem ResT.step {F H F1 H1 : Hp} {M M1 : List Addr} {σ : L2.St} {Q : Bool → DS → Prop} (w0 : Wd F H M) (w1 : Wd F1 H1 M1) (t1 : Tr F H M F1 H1 M1) {v : Bool} {H' : Hp} (h : ResT X σ F1 H1 M1 Q v H') : ResT X σ F H M Q v H' := by
  obtain ⟨ds', F', M', w', t', s', q⟩ := h
  exact ⟨ds', F', M', w', t1.trans w0 w1 t', s', q⟩
theorem me_one {op : BoolOp} {w : DE} (h : ME X a w) : ME X (.BoolOp op [a] pos) w := ⟨fun w0 s0 q => to_wE (pe_one (pe_w a)) (h.run w0 s0 q)⟩
theorem me_and {rest : List Expr} {wa wb : DE} (ha : ME X a wa) (hb : ME X (.BoolOp .And (b :: rest) pos) wb) : ME X (.BoolOp .And (a :: b :: rest) pos) (wand wa wb) := ⟨fun {F H M σ ds Q} w0 s0 q => by
  refine to_wE (pe_and (pe_w a) (pe_w _)) ?_
  refine (ha.run w0 s0 (Q := fun x s1 => _) q).imp fun v H1 ⟨d, ds1, F1, N, M1, w1, t1, r1, s1, c, e, k1⟩ => ?_
  subst e
  obtain ⟨rfl, rfl⟩ := res_bl r1
  refine ⟨c, rfl, ?_⟩
  cases c with
  | true => exact (hb.run w1 s1 k1).imp fun v' H' h => h.step w0 w1 t1
  | false => exact res_c w1 s1 (.bl false) k1 |>.step w0 w1 t1⟩
theorem me_or {rest : List Expr} {wa wb : DE} (ha : ME X a wa) (hb : ME X (.BoolOp .Or (b :: rest) pos) wb) : ME X (.BoolOp .Or (a :: b :: rest) pos) (wor wa wb) := ⟨fun {F H M σ ds Q} w0 s0 q => by
  refine to_wE (pe_or (pe_w a) (pe_w _)) ?_
  refine (ha.run w0 s0 (Q := fun x s1 => _) q).imp fun v H1 ⟨d, ds1, F1, N, M1, w1, t1, r1, s1, c, e, k1⟩ => ?_
  subst e
  obtain ⟨rfl, rfl⟩ := res_bl r1
  refine ⟨c, rfl, ?_⟩
  cases c with
  | false => exact (hb.run w1 s1 k1).imp fun v' H' h => h.step w0 w1 t1
  | true => exact res_c w1 s1 (.bl true) k1 |>.step w0 w1 t1⟩
theorem me_not {wa : DE} (ha : ME X a wa) : ME X (.UnaryOp .Not a pos) (wnot wa) := ⟨fun {F H M σ ds Q} w0 s0 q => by
  refine to_wE (pe_not (pe_w a)) ?_
  refine (ha.run w0 s0 (Q := fun x s1 => _) q).imp fun v H1 ⟨d, ds1, F1, N, M1, w1, t1, r1, s1, c, e, k1⟩ => ?_
  subst e
  obtain ⟨rfl, rfl⟩ := res_bl r1
  exact ⟨c, rfl, res_c w1 s1 (.bl (!c)) k1 |>.step w0 w1 t1⟩⟩
theorem me_if {c : Expr} {wt : DT} {wa wb : DE} (hc : MT X c wt) (ha : ME X a wa) (hb : ME X b wb) : ME X (.IfExp c a b pos) (wif wt wa wb) := ⟨fun {F H M σ ds Q} w0 s0 q => by
  refine to_wE (pe_ifExp (pt_w c) (pe_w a) (pe_w b)) ?_
  refine (hc.run w0 s0 (Q := fun x s1 => _) q).imp fun v H1 ⟨ds1, F1, M1, w1, t1, s1, k1⟩ => ?_
  cases v with
  | true => exact (ha.run w1 s1 k1).imp fun v' H' h => h.step w0 w1 t1
  | false => exact (hb.run w1 s1 k1).imp fun v' H' h => h.step w0 w1 t1⟩

/-! ### tests -/
def tcmp (o : Op2) (a b : Opd) : DT := fun s Q => wop2 o a b s fun x s1 => ∃ c, x = .bl c ∧ Q c s1
theorem resT_bl {F H : Hp} {M : List Addr} {σ : L2.St} {Q : Bool → DS → Prop} {v : V} {H' : Hp} (h : Res X σ F H M (fun x s1 => ∃ c, x = .bl c ∧ Q c s1) v H') : ∃ c, v = .bl c ∧ ResT X σ F H M Q c H' := by
  obtain ⟨d, ds', F', N, M', w', t', r', s', c, e, q⟩ := h
  subst e
  obtain ⟨rfl, rfl⟩ := res_bl r'
  exact ⟨c, rfl, ds', F', M', w', t', s', q⟩
theorem mt_cmp {op : CmpOp} {o : Op2} {oa ob : Opd} (ho : OpM X (compareOp op) o) (ha : MO X a oa) (hb : MO X b ob) (hm : behindInMarks op b = false := by first | exact nomark _ | rfl) : MT X (.Compare a [op] [b] pos) (tcmp o oa ob) :=
  ⟨fun {F H M σ ds Q} w0 s0 q => to_wT (pt_cmpR (opU _) (pe_w a) (pe_w b) hm) (by
    have h := two ha hb ho w0 s0 (Q := fun x s1 => ∃ c, x = .bl c ∧ Q c s1) q
    refine wE.imp h fun v H1 h1 => wE.imp h1 fun u H2 h2 => ?_
    obtain ⟨r, hr, hq⟩ := h2
    exact ⟨_, OpR.post hr, hq, fun z H3 h3 => resT_bl h3⟩)⟩
end
end M

namespace M
open PySem PySem.Spec PyProof.Rows L2

/-! ### data of the library's kind -/
mutual
def toPy : D → Option PyData
  | .non => some .none
  | .bl b => some (.bool b)
  | .int i => some (.int i)
  | .str x => some (.str x)
  | .tup xs => (toPyL xs).map .tuple
  | .lst _ xs => (toPyL xs).map .list
  | .frl xs => (toPyL xs).map .list
  | _ => none
def toPyL : List D → Option (List PyData)
  | [] => some []
  | x :: xs => match toPy x with
    | none => none
    | some p => (toPyL xs).map (p :: ·)
end
section
variable {K : PySem.W.Frag} {F H : Hp}
theorem sub_sqL (w : Sub F H) {a : Addr} {xs : List V} (h : SqL K F a xs) : SqL K H a xs := by
  rcases h with (h | ⟨o, h⟩) | h
  · rcases w _ _ h with q | ⟨z, _⟩
    · exact .inl (.inl q)
    · exact z.elim
  · rcases w _ _ h with q | ⟨z, _⟩
    · exact .inl (.inr ⟨o, q⟩)
    · exact z.elim
  · exact .inr h
theorem sub_sqT (w : Sub F H) {a : Addr} {xs : List V} (h : SqT K F a xs) : SqT K H a xs := by
  rcases h with (h | ⟨o, h⟩) | h
  · rcases w _ _ h with q | ⟨z, _⟩
    · exact .inl (.inl q)
    · exact z.elim
  · rcases w _ _ h with q | ⟨z, _⟩
    · exact .inl (.inr ⟨o, q⟩)
    · exact z.elim
  · exact .inr h
mutual
theorem Rp.dp (w : Sub F H) : ∀ {d : D} {v : V} {M : List Addr} {p : PyData}, Rp K F H d v M → toPy d = some p → Dp K H v p
  | _, _, _, _, .non, e => by cases (Option.some.inj (show some PyData.none = some _ from e)); exact .non
  | _, _, _, _, .bl b, e => by cases (Option.some.inj (show some (PyData.bool b) = some _ from e)); exact .bl b
  | _, _, _, _, .int i, e => by cases (Option.some.inj (show some (PyData.int i) = some _ from e)); exact .int i
  | _, _, _, _, .str x, e => by cases (Option.some.inj (show some (PyData.str x) = some _ from e)); exact .str x
  | _, _, _, _, .hole v, e => by cases (show none = some _ from e)
  | _, _, _, _, .off v, e => by cases (show none = some _ from e)
  | _, _, _, _, .rng h, e => by cases (show none = some _ from e)
  | _, _, _, _, .tup (ds := ds) h l, e => by
    rw [toPy] at e
    obtain ⟨ps, e1, e2⟩ := Option.map_eq_some_iff.mp e
    subst e2
    exact .tup (sub_sqT w h) (RpL.dp w l e1)
  | _, _, _, _, .lstF (ds := ds) h l, e => by
    rw [toPy] at e
    obtain ⟨ps, e1, e2⟩ := Option.map_eq_some_iff.mp e
    subst e2
    exact .lst (sub_sqL w (.inl (.inl h))) (RpL.dp w l e1)
  | _, _, _, _, .frl (ds := ds) h l, e => by
    rw [toPy] at e
    obtain ⟨ps, e1, e2⟩ := Option.map_eq_some_iff.mp e
    subst e2
    exact .lst (sub_sqL w h) (RpL.dp w l e1)
  | _, _, _, _, .lstO (ds := ds) h l, e => by
    rw [toPy] at e
    obtain ⟨ps, e1, e2⟩ := Option.map_eq_some_iff.mp e
    subst e2
    exact .lst (.inl (.inl h)) (RpL.dp w l e1)
  | _, _, _, _, .dKF _ _ _, e => by cases (show none = some _ from e)
  | _, _, _, _, .dKO _ _ _, e => by cases (show none = some _ from e)
  | _, _, _, _, .dTF _ _ _, e => by cases (show none = some _ from e)
  | _, _, _, _, .dTO _ _ _, e => by cases (show none = some _ from e)
  | _, _, _, _, .insF _ _ _, e => by cases (show none = some _ from e)
  | _, _, _, _, .insO _ _ _, e => by cases (show none = some _ from e)
theorem RpL.dp (w : Sub F H) : ∀ {ds : List D} {vs : List V} {M : List Addr} {ps : List PyData}, RpL K F H ds vs M → toPyL ds = some ps → DpAll K H vs ps
  | _, _, _, _, .nil, e => by cases (Option.some.inj (show some [] = some _ from e)); exact .nil
  | _, _, _, _, .cons (d := d) (ds := ds) h l, e => by
    rw [toPyL] at e
    cases e1 : toPy d with
    | none => rw [e1] at e; cases e
    | some p =>
      rw [e1] at e
      obtain ⟨ps, e2, e3⟩ := Option.map_eq_some_iff.mp e
      subst e3
      exact .cons (Rp.dp w h e1) (RpL.dp w l e2)
end
/-- a list or tuple, as it is read -/
def lstOf : D → Option (List D)
  | .lst _ xs => some xs
  | .frl xs => some xs
  | _ => none
theorem Rp.seq (w : Sub F H) {d : D} {ds : List D} {v : V} {M : List Addr} (h : Rp K F H d v M) (e : lstOf d = some ds) : ∃ a vs M', v = .ref a ∧ SqL K H a vs ∧ RpL K F H ds vs M' ∧ ∀ x ∈ M', x ∈ M := by
  cases h with
  | lstF h l => cases e; exact ⟨_, _, _, rfl, sub_sqL w (.inl (.inl h)), l, fun _ h => h⟩
  | frl h l => cases e; exact ⟨_, _, _, rfl, sub_sqL w h, l, fun _ h => h⟩
  | lstO h l => cases e; exact ⟨_, _, _, rfl, .inl (.inl h), l, fun _ h => List.mem_cons_of_mem _ h⟩
  | _ => cases e
theorem Rp.own (w : Sub F H) {o : Bool} {ds : List D} {v : V} {M : List Addr} (h : Rp K F H (.lst o ds) v M) : ∃ a vs M', v = .ref a ∧ H a = some (.lst vs) ∧ RpL K F H ds vs M' ∧ ∀ x ∈ M', x ∈ M := by
  cases h with
  | lstF h l =>
    rcases w _ _ h with q | ⟨z, _⟩
    · exact ⟨_, _, _, rfl, q, l, fun _ h => h⟩
    · exact z.elim
  | lstO h l => exact ⟨_, _, _, rfl, h, l, fun _ h => List.mem_cons_of_mem _ h⟩
theorem Rp.tpl (w : Sub F H) {ds : List D} {v : V} {M : List Addr} (h : Rp K F H (.tup ds) v M) : ∃ a vs, v = .ref a ∧ SqT K H a vs ∧ RpL K F H ds vs M := by
  cases h with
  | tup h l => exact ⟨_, _, rfl, sub_sqT w h, l⟩
theorem Rp.of_int {i : Int} {v : V} {M : List Addr} (h : Rp K F H (.int i) v M) : v = .int i ∧ M = [] := by cases h; exact ⟨rfl, rfl⟩
theorem Rp.of_str {i : Str} {v : V} {M : List Addr} (h : Rp K F H (.str i) v M) : v = .str i ∧ M = [] := by cases h; exact ⟨rfl, rfl⟩
theorem Rp.of_bl {i : Bool} {v : V} {M : List Addr} (h : Rp K F H (.bl i) v M) : v = .bl i ∧ M = [] := by cases h; exact ⟨rfl, rfl⟩
theorem Rp.of_non {v : V} {M : List Addr} (h : Rp K F H .non v M) : v = .non ∧ M = [] := by cases h; exact ⟨rfl, rfl⟩
theorem RpL.ice0 {ds : List D} {vs : List V} {M : List Addr} (h : RpL K F H ds vs M) (e : fzL ds = ds) : RpL K F H ds vs [] := by
  have := h.frozen e
  subst this
  exact h
theorem Rp.ice0 {ds : D} {vs : V} {M : List Addr} (h : Rp K F H ds vs M) (e : fz ds = ds) : Rp K F H ds vs [] := by
  have := h.frozen e
  subst this
  exact h
theorem RpL.get : ∀ {ds : List D} {vs : List V} {M : List Addr} {j : Nat} {d : D}, RpL K F H ds vs M → ds[j]? = some d → ∃ v N, vs[j]? = some v ∧ Rp K F H d v N ∧ ∀ a ∈ N, a ∈ M
  | _, _, _, j, _, .nil, e => by simp at e
  | _, _, _, 0, d, .cons (M := M) h l, e => by
    simp only [List.getElem?_cons_zero, Option.some.injEq] at e
    subst e
    exact ⟨_, M, rfl, h, fun a q => List.mem_append_left _ q⟩
  | _, _, _, j + 1, d, .cons h l, e => by
    obtain ⟨v, N, e1, r, s⟩ := RpL.get (j := j) (d := d) l (by simpa using e)
    exact ⟨v, N, by simpa using e1, r, fun a q => List.mem_append_right _ (s a q)⟩
theorem RpL.append : ∀ {ds ds' : List D} {vs vs' : List V}, RpL K F H ds vs [] → RpL K F H ds' vs' [] → RpL K F H (ds ++ ds') (vs ++ vs') []
  | [], _, _, _, h, q => by cases h; exact q
  | d :: ds, ds', vs, vs', h, q => by
    cases vs with
    | nil => cases h
    | cons v vs =>
      obtain ⟨M, N, e, h1, h2⟩ : ∃ M N, M ++ N = [] ∧ Rp K F H d v M ∧ RpL K F H ds vs N := by
        generalize hM : ([] : List Addr) = M0 at h
        cases h with
        | cons h1 h2 => exact ⟨_, _, rfl, h1, h2⟩
      obtain ⟨rfl, rfl⟩ := List.append_eq_nil_iff.mp e
      exact .cons (M := []) (N := []) h1 (RpL.append h2 q)
theorem RpL.drop0 : ∀ {ds : List D} {vs : List V} (n : Nat), RpL K F H ds vs [] → RpL K F H (ds.drop n) (vs.drop n) []
  | _, _, 0, h => h
  | [], vs, n + 1, h => by cases h; exact .nil
  | d :: ds, vs, n + 1, h => by
    cases vs with
    | nil => cases h
    | cons v vs =>
      obtain ⟨M, N, e, h1, h2⟩ : ∃ M N, M ++ N = [] ∧ Rp K F H d v M ∧ RpL K F H ds vs N := by
        generalize hM : ([] : List Addr) = M0 at h
        cases h with
        | cons h1 h2 => exact ⟨_, _, rfl, h1, h2⟩
      obtain ⟨rfl, rfl⟩ := List.append_eq_nil_iff.mp e
      exact RpL.drop0 n h2
theorem RpL.take0 : ∀ {ds : List D} {vs : List V} (n : Nat), RpL K F H ds vs [] → RpL K F H (ds.take n) (vs.take n) []
  | _, _, 0, h => .nil
  | [], vs, n + 1, h => by cases h; exact .nil
  | d :: ds, vs, n + 1, h => by
    cases vs with
    | nil => cases h
    | cons v vs =>
      obtain ⟨M, N, e, h1, h2⟩ : ∃ M N, M ++ N = [] ∧ Rp K F H d v M ∧ RpL K F H ds vs N := by
        generalize hM : ([] : List Addr) = M0 at h
        cases h with
        | cons h1 h2 => exact ⟨_, _, rfl, h1, h2⟩
      obtain ⟨rfl, rfl⟩ := List.append_eq_nil_iff.mp e
      exact .cons (M := []) (N := []) h1 (RpL.take0 n h2)
end
section
variable {X : Cx} {F H : Hp} {M : List Addr} {Q : D → Prop}
theorem made0 (w : Wd F H M) {d : D} {z : V} (r : Rp X.K F H d z []) (q : Q d) : Made X F H Q z H := ⟨d, F, [], w.part (List.nil_sublist _), Tr.refl F H [], r, q⟩
theorem made_lst (w : Wd F H M) {p : Addr} {vs : List V} {ds : List D} (hp : H p = none) (l : RpL X.K F H ds vs []) (q : Q (.lst true ds)) : Made X F H Q (.ref p) (upd H p (.lst vs)) := by
  obtain ⟨w2, t2, e2⟩ := new_own (o := .lst vs) (w.part (List.nil_sublist M)) hp
  exact ⟨.lst true ds, F, [p], w2, t2, .lstO upd_same (l.mono (fun _ _ h => h) fun a h => nomatch h), q⟩
theorem made_tup (w : Wd F H M) {p : Addr} {vs : List V} {ds : List D} (hp : H p = none) (l : RpL X.K F H ds vs []) (q : Q (.tup ds)) : Made X F H Q (.ref p) (upd H p (.tup vs)) := by
  obtain ⟨w2, t2, e2, u2⟩ := new_ice (o := .tup vs) (w.part (List.nil_sublist M)) hp
  exact ⟨.tup ds, _, [], w2, t2, .tup (SqT.of upd_same) (l.mono u2 fun a h => nomatch h), q⟩
theorem made_bl (w : Wd F H M) {b : Bool} (q : Q (.bl b)) : Made X F H Q (.bl b) H := made0 w (.bl b) q
theorem made_int (w : Wd F H M) {b : Int} (q : Q (.int b)) : Made X F H Q (.int b) H := made0 w (.int b) q
theorem made_str (w : Wd F H M) {b : Str} (q : Q (.str b)) : Made X F H Q (.str b) H := made0 w (.str b) q

/-! ### operators -/
def o_add : Op2 := fun x y Q => match x, y with
  | .int i, .int j => Q (.int (i + j))
  | .str a, .str b => a.length + b.length ≤ sizeLine ∧ Q (.str (a ++ b))
  | .tup xs, .tup ys => fzL xs = xs ∧ fzL ys = ys ∧ xs.length + ys.length ≤ sizeLine ∧ Q (.tup (xs ++ ys))
  | .lst _ xs, .lst _ ys => fzL xs = xs ∧ fzL ys = ys ∧ xs.length + ys.length ≤ sizeLine ∧ Q (.lst true (xs ++ ys))
  | _, _ => False
theorem om_add : OpM X (binaryOp .Add) o_add := by
  intro F H M A B x y v u Q k w rx ry sx sy o h
  cases x <;> cases y <;> try exact (show False from o).elim
  · obtain ⟨rfl, _⟩ := rx.of_int
    obtain ⟨rfl, _⟩ := ry.of_int
    exact ⟨_, op_add, _, _, rfl, rfl, h _ _ (made_int w o)⟩
  · obtain ⟨rfl, _⟩ := rx.of_str
    obtain ⟨rfl, _⟩ := ry.of_str
    exact ⟨_, op_add_str, _, _, rfl, rfl, o.1, h _ _ (made_str w o.2)⟩
  · obtain ⟨a, vs, rfl, q1, l1⟩ := rx.tpl w.sub
    obtain ⟨b, us, rfl, q2, l2⟩ := ry.tpl w.sub
    obtain ⟨e1, e2, hl, o⟩ := o
    have n1 := l1.len
    have n2 := l2.len
    have i1 := l1.ice0 e1
    have i2 := l2.ice0 e2
    refine ⟨_, op_catA, a, b, vs, us, rfl, rfl, q1, q2, by omega, fun z => ?_, fun _ z => ?_, fun _ _ p hp => h _ _ (made_tup w hp (i1.append i2) o)⟩
    · subst z
      cases i1
      exact h _ _ (made0 w (ry.ice0 (by rw [fz, e2])) o)
    · subst z
      cases i2
      rw [List.append_nil] at o
      exact h _ _ (made0 w (rx.ice0 (by rw [fz, e1])) o)
  · obtain ⟨a, vs, _, rfl, q1, l1, _⟩ := rx.own w.sub
    obtain ⟨b, us, _, rfl, q2, l2, _⟩ := ry.own w.sub
    obtain ⟨e1, e2, hl, o⟩ := o
    have n1 := l1.len
    have n2 := l2.len
    have i1 := l1.ice0 e1
    have i2 := l2.ice0 e2
    exact ⟨_, op_cat, a, b, vs, us, rfl, rfl, q1, q2, by omega, fun p hp => h _ _ (made_lst w hp (i1.append i2) o)⟩
/-- two ints, under C -/
def o_ii (C : Int → Int → Prop) (g : Int → Int → Int) : Op2 := fun x y Q => match x, y with
  | .int i, .int j => C i j ∧ Q (.int (g i j))
  | _, _ => False
theorem om_ii {f : Value → Value → Sem Value} {C : Int → Int → Prop} {g : Int → Int → Int} (hr : OpR X f (rI C fun i j => .int (g i j))) : OpM X f (o_ii C g) := by
  intro F H M A B x y v u Q k w rx ry sx sy o h
  cases x <;> cases y <;> try exact (show False from o).elim
  obtain ⟨rfl, _⟩ := rx.of_int
  obtain ⟨rfl, _⟩ := ry.of_int
  exact ⟨_, hr, _, _, rfl, rfl, o.1, h _ _ (made_int w o.2)⟩
def o_ii0 (g : Int → Int → Int) : Op2 := fun x y Q => match x, y with
  | .int i, .int j => Q (.int (g i j))
  | _, _ => False
theorem om_ii0 {f : Value → Value → Sem Value} {g : Int → Int → Int} (hr : OpR X f (rI0 fun i j => .int (g i j))) : OpM X f (o_ii0 g) := by
  intro F H M A B x y v u Q k w rx ry sx sy o h
  cases x <;> cases y <;> try exact (show False from o).elim
  obtain ⟨rfl, _⟩ := rx.of_int
  obtain ⟨rfl, _⟩ := ry.of_int
  exact ⟨_, hr, _, _, rfl, rfl, h _ _ (made_int w o)⟩
abbrev o_sub : Op2 := o_ii0 fun i j => i - j
theorem om_sub : OpM X (binaryOp .Sub) o_sub := om_ii0 op_sub
abbrev o_mod : Op2 := o_ii (fun _ j => 0 < j) fun i j => i % j
theorem om_mod : OpM X (binaryOp .Mod) o_mod := om_ii op_mod
abbrev o_fdiv : Op2 := o_ii CDiv fun i j => i / j
theorem om_fdiv : OpM X (binaryOp .FloorDiv) o_fdiv := om_ii op_fdiv
abbrev o_pow : Op2 := o_ii CPow fun i j => i ^ j.toNat
theorem om_pow : OpM X (binaryOp .Pow) o_pow := om_ii op_pow
abbrev o_shl : Op2 := o_ii CPow fun i j => i * 2 ^ j.toNat
theorem om_shl : OpM X (binaryOp .LShift) o_shl := om_ii op_shl
abbrev o_shr : Op2 := o_ii (fun _ j => 0 ≤ j) fun i j => i / 2 ^ j.toNat
theorem om_shr : OpM X (binaryOp .RShift) o_shr := om_ii op_shr
abbrev o_and : Op2 := o_ii0 Builtin.bitAnd
theorem om_and : OpM X (binaryOp .BitAnd) o_and := om_ii0 op_and
abbrev o_or : Op2 := o_ii0 Builtin.bitOr
theorem om_or : OpM X (binaryOp .BitOr) o_or := om_ii0 op_or
abbrev o_xor : Op2 := o_ii0 Builtin.bitXor
theorem om_xor : OpM X (binaryOp .BitXor) o_xor := om_ii0 op_xor
theorem fzL_rep {xs : List D} (e : fzL xs = xs) (k : Nat) : fzL (List.replicate k xs).flatten = (List.replicate k xs).flatten := by
  induction k with
  | zero => rfl
  | succ k ih => rw [List.replicate_succ, List.flatten_cons, fzL_eq, List.map_append, ← fzL_eq, ← fzL_eq, e, ih]
theorem RpL.rep {K : PySem.W.Frag} {ds : List D} {vs : List V} (h : RpL K F H ds vs []) (k : Nat) : RpL K F H (List.replicate k ds).flatten (List.replicate k vs).flatten [] := by
  induction k with
  | zero => exact .nil
  | succ k ih => rw [List.replicate_succ, List.replicate_succ, List.flatten_cons, List.flatten_cons]; exact h.append ih
def o_mul : Op2 := fun x y Q => match x, y with
  | .int i, .int j => CMul i j ∧ Q (.int (i * j))
  | .lst _ xs, .int k => fzL xs = xs ∧ (-(2 ^ 63) ≤ k ∧ k < 2 ^ 63) ∧ xs.length * k.toNat ≤ sizeLine ∧ Q (.lst true (List.replicate k.toNat xs).flatten)
  | _, _ => False
theorem om_mul : OpM X (binaryOp .Mult) o_mul := by
  intro F H M A B x y v u Q k w rx ry sx sy o h
  cases x <;> cases y <;> try exact (show False from o).elim
  · obtain ⟨rfl, _⟩ := rx.of_int
    obtain ⟨rfl, _⟩ := ry.of_int
    exact ⟨_, op_mul, _, _, rfl, rfl, o.1, h _ _ (made_int w o.2)⟩
  · obtain ⟨a, vs, _, rfl, q1, l1, _⟩ := rx.own w.sub
    obtain ⟨rfl, _⟩ := ry.of_int
    obtain ⟨e1, ⟨b1, b2⟩, hl, o⟩ := o
    have n1 := l1.len
    exact ⟨_, op_rep, a, _, vs, rfl, rfl, q1, b1, b2, by rw [← n1]; exact hl, fun p hp => h _ _ (made_lst w hp ((l1.ice0 e1).rep _) o)⟩

/-! ### comparisons -/
def o_cmp (gi : Int → Int → Bool) (gs : List Nat → List Nat → Bool) : Op2 := fun x y Q => match x, y with
  | .int i, .int j => Q (.bl (gi i j))
  | .str a, .str b => Q (.bl (gs a.cps.toList b.cps.toList))
  | _, _ => False
theorem om_cmp {f : Value → Value → Sem Value} {gi : Int → Int → Bool} {gs : List Nat → List Nat → Bool} (hi : OpR X f (rI0 fun i j => .bl (gi i j))) (hs : OpR X f (fun x y H Q => ∃ i j, x = .str i ∧ y = .str j ∧ Q (.bl (gs i.cps.toList j.cps.toList)) H)) : OpM X f (o_cmp gi gs) := by
  intro F H M A B x y v u Q k w rx ry sx sy o h
  cases x <;> cases y <;> try exact (show False from o).elim
  · obtain ⟨rfl, _⟩ := rx.of_int
    obtain ⟨rfl, _⟩ := ry.of_int
    exact ⟨_, hi, _, _, rfl, rfl, h _ _ (made_bl w o)⟩
  · obtain ⟨rfl, _⟩ := rx.of_str
    obtain ⟨rfl, _⟩ := ry.of_str
    exact ⟨_, hs, _, _, rfl, rfl, h _ _ (made_bl w o)⟩
abbrev o_lt : Op2 := o_cmp (fun i j => decide (i < j)) fun a b => decide (a < b)
theorem om_lt : OpM X (compareOp .Lt) o_lt := om_cmp op_lt op_lt_str
abbrev o_le : Op2 := o_cmp (fun i j => decide (i ≤ j)) fun a b => !decide (b < a)
theorem om_le : OpM X (compareOp .LtE) o_le := om_cmp op_le op_le_str
abbrev o_gt : Op2 := o_cmp (fun i j => decide (j < i)) fun a b => decide (b < a)
theorem om_gt : OpM X (compareOp .Gt) o_gt := om_cmp op_gt op_gt_str
abbrev o_ge : Op2 := o_cmp (fun i j => decide (j ≤ i)) fun a b => !decide (a < b)
theorem om_ge : OpM X (compareOp .GtE) o_ge := om_cmp op_ge op_ge_str
/-- == -/
def eqD (x y : D) (k : Bool → Prop) : Prop := match x, y with
  | .int i, .int j => k (decide (i = j))
  | .str a, .str b => k (decide (a = b))
  | .bl a, .bl b => k (decide (a = b))
  | .non, .non => k true
  | x, y => ∃ p q, toPy x = some p ∧ toPy y = some q ∧ SeqAt.shaped p = true ∧ SeqAt.shaped q = true ∧ k (PyData.eqv p q)
def o_eq : Op2 := fun x y Q => eqD x y fun c => Q (.bl c)
def o_ne : Op2 := fun x y Q => eqD x y fun c => Q (.bl (!c))
theorem decV {α : Type} [DecidableEq α] {f : α → V} (hf : ∀ a b, f a = f b → a = b) (a b : α) : decide (f a = f b) = decide (a = b) := by
  by_cases h : a = b
  · subst h; simp
  · rw [decide_eq_false h, decide_eq_false fun z => h (hf _ _ z)]
theorem om_eqG {f : Value → Value → Sem Value} {g : Bool → Bool} (h1 : OpR X f (fun x y H Q => scal x y = true ∧ Q (.bl (g (decide (x = y)))) H)) (h2 : OpR X f (fun x y H Q => ∃ d e, Dp X.K H x d ∧ Dp X.K H y e ∧ SeqAt.shaped d = true ∧ SeqAt.shaped e = true ∧ Q (.bl (g (PyData.eqv d e))) H)) :
    OpM X f (fun x y Q => eqD x y fun c => Q (.bl (g c))) := by
  intro F H M A B x y v u Q k w rx ry sx sy o h
  have gen : (∃ p q, toPy x = some p ∧ toPy y = some q ∧ SeqAt.shaped p = true ∧ SeqAt.shaped q = true ∧ Q (.bl (g (PyData.eqv p q)))) → ∃ r, OpR X f r ∧ r v u H k := fun ⟨p, q, e1, e2, s1, s2, z⟩ =>
    ⟨_, h2, p, q, rx.dp w.sub e1, ry.dp w.sub e2, s1, s2, h _ _ (made_bl w z)⟩
  cases x <;> cases y <;> first
    | exact gen o
    | (obtain ⟨rfl, _⟩ := rx.of_int
       obtain ⟨rfl, _⟩ := ry.of_int
       exact ⟨_, h1, rfl, by rw [decV (fun a b h => V.int.inj h)]; exact h _ _ (made_bl w o)⟩)
    | (obtain ⟨rfl, _⟩ := rx.of_str
       obtain ⟨rfl, _⟩ := ry.of_str
       exact ⟨_, h1, rfl, by rw [decV (fun a b h => V.str.inj h)]; exact h _ _ (made_bl w o)⟩)
    | (obtain ⟨rfl, _⟩ := rx.of_bl
       obtain ⟨rfl, _⟩ := ry.of_bl
       exact ⟨_, h1, rfl, by rw [decV (fun a b h => V.bl.inj h)]; exact h _ _ (made_bl w o)⟩)
    | (obtain ⟨rfl, _⟩ := rx.of_non
       obtain ⟨rfl, _⟩ := ry.of_non
       exact ⟨_, h1, rfl, h _ _ (made_bl w o)⟩)
theorem om_eq (hu : X.A.units + 64 < cLine) : OpM X (compareOp .Eq) o_eq := om_eqG (g := id) op_eq (op_eqD hu)
theorem om_ne (hu : X.A.units + 64 < cLine) : OpM X (compareOp .NotEq) o_ne := om_eqG (g := not) op_ne (op_neD hu)
/-- is None -/
def isNon : D → Option Bool
  | .non => some true
  | .hole _ => none
  | .off => none
  | _ => some false
def o_is : Op2 := fun x y Q => match y with
  | .non => ∃ c, isNon x = some c ∧ Q (.bl c)
  | _ => False
def o_isnt : Op2 := fun x y Q => match y with
  | .non => ∃ c, isNon x = some c ∧ Q (.bl (!c))
  | _ => False
theorem isNon_v {K : PySem.W.Frag} {d : D} {v : V} {N : List Addr} (r : Rp K F H d v N) {c : Bool} (e : isNon d = some c) : decide (v = .non) = c := by
  cases r <;> cases e <;> rfl
theorem om_is : OpM X (compareOp .Is) o_is := by
  intro F H M A B x y v u Q k w rx ry sx sy o h
  cases y <;> try exact (show False from o).elim
  obtain ⟨rfl, _⟩ := ry.of_non
  obtain ⟨c, e, o⟩ := o
  exact ⟨_, op_isN, rfl, by rw [isNon_v rx e]; exact h _ _ (made_bl w o)⟩
theorem om_isnt : OpM X (compareOp .IsNot) o_isnt := by
  intro F H M A B x y v u Q k w rx ry sx sy o h
  cases y <;> try exact (show False from o).elim
  obtain ⟨rfl, _⟩ := ry.of_non
  obtain ⟨c, e, o⟩ := o
  exact ⟨_, op_notN, rfl, by rw [isNon_v rx e]; exact h _ _ (made_bl w o)⟩
end
end M

namespace M
open PySem PySem.Spec PyProof.Rows L2
section
variable {X : Cx} {F H : Hp} {M : List Addr} {Q : D → Prop}

/-! ### in -/
def flatD : D → Option V
  | .non => some .non
  | .bl b => some (.bl b)
  | .int i => some (.int i)
  | .str x => some (.str x)
  | _ => none
def keyD : D → Option Key
  | .int i => some (.inl i)
  | .str x => some (.inr x)
  | _ => none
theorem flatD_v {K : PySem.W.Frag} {d : D} {v : V} {N : List Addr} {x : V} (r : Rp K F H d v N) (e : flatD d = some x) : v = x ∧ flatV v = true := by
  cases r <;> cases e <;> exact ⟨rfl, rfl⟩
theorem keyD_v {K : PySem.W.Frag} {d : D} {v : V} {N : List Addr} {k : Key} (r : Rp K F H d v N) (e : keyD d = some k) : v = kV k := by
  cases r <;> cases e <;> rfl
theorem flatL_v {K : PySem.W.Frag} : ∀ {ds : List D} {vs : List V} {N : List Addr} {xs : List V}, RpL K F H ds vs N → ds.mapM flatD = some xs → vs = xs ∧ xs.all flatV = true
  | _, _, _, xs, .nil, e => by
    cases (show some [] = some xs from e)
    exact ⟨rfl, rfl⟩
  | _, _, _, xs, .cons (d := d) (ds := ds) h l, e => by
    rw [List.mapM_cons] at e
    cases e1 : flatD d with
    | none => rw [e1] at e; cases e
    | some x =>
      cases e2 : ds.mapM flatD with
      | none => rw [e1, e2] at e; cases e
      | some r =>
        rw [e1, e2] at e
        have e' : some (x :: r) = some xs := e
        cases e'
        obtain ⟨h1, h2⟩ := flatD_v h e1
        obtain ⟨h3, h4⟩ := flatL_v l e2
        subst h1 h3
        exact ⟨rfl, by rw [List.all_cons, h2, h4]; rfl⟩
def getK {κ α : Type} [DecidableEq κ] (kvs : List (κ × α)) (k : κ) : Option α := (kvs.find? fun kv => decide (kv.1 = k)).map (·.2)
theorem valV_getK {κ : Type} [DecidableEq κ] (kvs : List (κ × V)) (k : κ) : valV kvs k = getK kvs k := rfl
def inD (g : Bool → Bool) : Op2 := fun x y Q => match y with
  | .tup ys => ∃ v vs, flatD x = some v ∧ ys.mapM flatD = some vs ∧ Q (.bl (g (inV v vs)))
  | .dK _ kvs => ∃ k, keyD x = some k ∧ Q (.bl (g (getK kvs k).isSome))
  | y => ∃ p ps ys, lstOf y = some ys ∧ toPy x = some p ∧ toPyL ys = some ps ∧ SeqAt.shaped p = true ∧ SeqAt.shaped (.list ps) = true ∧ Q (.bl (g (ps.any fun z => PyData.eqv z p)))
abbrev o_in : Op2 := inD id
abbrev o_nin : Op2 := inD not
theorem valV_some {κ α β : Type} [DecidableEq κ] : ∀ {xs : List (κ × α)} {ys : List (κ × β)}, xs.map (·.1) = ys.map (·.1) → ∀ k, (getK xs k).isSome = (getK ys k).isSome
  | [], [], _, k => rfl
  | [], _ :: _, h, _ => by cases h
  | _ :: _, [], h, _ => by cases h
  | (a, x) :: xs, (b, y) :: ys, h, k => by
    simp only [List.map_cons, List.cons.injEq] at h
    obtain ⟨rfl, h⟩ := h
    have ih := valV_some h k
    unfold getK at ih ⊢
    rw [List.find?_cons, List.find?_cons]
    by_cases e : a = k
    · simp [e]
    · simp only [e, decide_false]
      exact ih
theorem Rp.dict (w : Sub F H) {K : PySem.W.Frag} {o : Bool} {kvs : List (Key × D)} {v : V} {M : List Addr} (h : Rp K F H (.dK o kvs) v M) : ∃ a hk M', v = .ref a ∧ Rd H a (.dK hk) ∧ hk.map (·.1) = kvs.map (·.1) ∧ RpL K F H (kvs.map (·.2)) (hk.map (·.2)) M' ∧ ∀ x ∈ M', x ∈ M := by
  cases h with
  | dKF h e l =>
    rcases w _ _ h with q | ⟨_, q⟩
    · exact ⟨_, _, _, rfl, .inl q, e, l, fun _ h => h⟩
    · exact ⟨_, _, _, rfl, .inr q, e, l, fun _ h => h⟩
  | dKO h e l => exact ⟨_, _, _, rfl, .inl h, e, l, fun _ h => List.mem_cons_of_mem _ h⟩
theorem op_inDict (hu : X.A.units + 1 < cLine) : OpR X (compareOp .In) (fun y x H Q => ∃ a o, x = .ref a ∧ DGet H a y o ∧ Q (.bl o.isSome) H) := by
  intro pins s σ H y x u v Q I ry rx ⟨a, o, ea, g, q⟩
  subst ea
  cases rx
  exact d_in hu I g ry fun s' I' => ⟨.bl _, H, I', rfl, q⟩
theorem op_ninDict (hu : X.A.units + 1 < cLine) : OpR X (compareOp .NotIn) (fun y x H Q => ∃ a o, x = .ref a ∧ DGet H a y o ∧ Q (.bl (!o.isSome)) H) := by
  intro pins s σ H y x u v Q I ry rx ⟨a, o, ea, g, q⟩
  subst ea
  cases rx
  exact d_notIn hu I g ry fun s' I' => ⟨.bl _, H, I', rfl, q⟩
theorem om_inG {f : Value → Value → Sem Value} {g : Bool → Bool} (h1 : OpR X f (fun x y H Q => ∃ p xs, y = .ref p ∧ (SqL X.K H p xs ∨ SqT X.K H p xs) ∧ flatV x = true ∧ xs.all flatV = true ∧ Q (.bl (g (inV x xs))) H))
    (h2 : OpR X f (fun y x H Q => ∃ a o, x = .ref a ∧ DGet H a y o ∧ Q (.bl (g o.isSome)) H))
    (h3 : OpR X f (fun x y H Q => ∃ d ds, Dp X.K H x d ∧ Dp X.K H y (.list ds) ∧ SeqAt.shaped d = true ∧ SeqAt.shaped (.list ds) = true ∧ Q (.bl (g (ds.any fun z => PyData.eqv z d))) H)) : OpM X f (inD g) := by
  intro F H M A B x y v u Q k w rx ry sx sy o h
  have gen : (∃ p ps ys, lstOf y = some ys ∧ toPy x = some p ∧ toPyL ys = some ps ∧ SeqAt.shaped p = true ∧ SeqAt.shaped (.list ps) = true ∧ Q (.bl (g (ps.any fun z => PyData.eqv z p)))) → ∃ r, OpR X f r ∧ r v u H k := fun ⟨p, ps, ys, e0, e1, e2, s1, s2, z⟩ => by
    obtain ⟨a, vs, M', rfl, q1, l1, _⟩ := ry.seq w.sub e0
    exact ⟨_, h3, p, ps, rx.dp w.sub e1, .lst q1 (l1.dp w.sub e2), s1, s2, h _ _ (made_bl w z)⟩
  cases y with
  | tup ys =>
    obtain ⟨x', vs', e1, e2, o⟩ := o
    obtain ⟨a, vs, rfl, q1, l1⟩ := ry.tpl w.sub
    obtain ⟨rfl, f1⟩ := flatD_v rx e1
    obtain ⟨rfl, f2⟩ := flatL_v l1 e2
    exact ⟨_, h1, a, _, rfl, .inr q1, f1, f2, h _ _ (made_bl w o)⟩
  | dK ob kvs =>
    obtain ⟨key, e1, o⟩ := o
    obtain ⟨a, hk, M', rfl, q1, ek, l1, _⟩ := ry.dict w.sub
    have ev := keyD_v rx e1
    subst ev
    refine ⟨_, h2, a, valV hk key, rfl, .inl ⟨hk, key, q1, rfl, rfl⟩, ?_⟩
    rw [valV_getK, valV_some ek]
    exact h _ _ (made_bl w o)
  | non => exact gen o
  | bl _ => exact gen o
  | int _ => exact gen o
  | str _ => exact gen o
  | lst _ _ => exact gen o
  | frl _ => exact gen o
  | dT _ _ => exact gen o
  | ins _ _ _ => exact gen o
  | rng _ _ => exact gen o
  | hole _ => exact gen o
  | off => exact gen o
theorem om_in (hu : X.A.units + 65 < cLine) : OpM X (compareOp .In) o_in := om_inG (g := id) op_in_seq (op_inDict (by omega)) (op_inD hu)
theorem om_nin (hu : X.A.units + 65 < cLine) : OpM X (compareOp .NotIn) o_nin := om_inG (g := not) op_notIn_seq (op_ninDict (by omega)) (op_notInD hu)

/-! ### unary -/
def o_neg : Op1 := fun x Q => match x with
  | .int i => Q (.int (-i))
  | _ => False
theorem um_neg : UnM X (unaryOp .USub) o_neg := by
  intro F H M A x v Q k w rx sx o h
  cases x <;> try exact (show False from o).elim
  obtain ⟨rfl, _⟩ := rx.of_int
  exact ⟨_, un_neg, _, rfl, h _ _ (made_int w o)⟩

/-! ### built-in calls -/
theorem RpL.inv1 {K : PySem.W.Frag} {d : D} {vs : List V} {N : List Addr} (h : RpL K F H [d] vs N) : ∃ v, vs = [v] ∧ Rp K F H d v N := by
  cases h with
  | cons h l =>
    cases l
    rw [List.append_nil]
    exact ⟨_, rfl, h⟩
theorem RpL.inv2 {K : PySem.W.Frag} {d e : D} {vs : List V} {N : List Addr} (h : RpL K F H [d, e] vs N) : ∃ v u A B, vs = [v, u] ∧ Rp K F H d v A ∧ Rp K F H e u B ∧ (∀ a ∈ A, a ∈ N) ∧ (∀ a ∈ B, a ∈ N) := by
  cases h with
  | cons h l =>
    obtain ⟨u, rfl, r⟩ := l.inv1
    exact ⟨_, _, _, _, rfl, h, r, fun a q => List.mem_append_left _ q, fun a q => List.mem_append_right _ q⟩
def lenD : D → Option Nat
  | .lst _ xs => some xs.length
  | .frl xs => some xs.length
  | .tup xs => some xs.length
  | .dK true xs => some xs.length
  | _ => none
def o_len : OpL := fun xs Q => match xs with
  | [.str x] => x.length ≤ sizeLine ∧ Q (.int x.length)
  | [x] => ∃ n, lenD x = some n ∧ Q (.int n)
  | _ => False
theorem cm_len : CallM X (.builtin "len") o_len := by
  intro F H M A xs vs Q k w rl sl o h
  match xs, o with
  | [], o => exact (show False from o).elim
  | x :: y :: zs, o => cases x <;> exact (show False from o).elim
  | [x], o =>
    obtain ⟨v, rfl, r⟩ := rl.inv1
    have seq : ∀ ys, lstOf x = some ys → lenD x = some ys.length → (∃ n, lenD x = some n ∧ Q (.int n)) → ∃ r, CallR X (.builtin "len") r ∧ r [v] H k := fun ys e1 e2 ⟨n, e, o⟩ => by
      rw [e2] at e
      cases e
      obtain ⟨a, us, _, rfl, q1, l1, _⟩ := r.seq w.sub e1
      refine ⟨_, call_len_seq, a, us, rfl, .inl q1, ?_⟩
      rw [← l1.len]
      exact h _ _ (made_int w o)
    cases x with
    | str x =>
      obtain ⟨rfl, _⟩ := r.of_str
      exact ⟨_, call_len_str, x, rfl, o.1, h _ _ (made_int w o.2)⟩
    | lst ob ys => exact seq ys rfl rfl o
    | frl ys => exact seq ys rfl rfl o
    | tup ys =>
      obtain ⟨n, e, o⟩ := o
      cases e
      obtain ⟨a, us, rfl, q1, l1⟩ := r.tpl w.sub
      refine ⟨_, call_len_seq, a, us, rfl, .inr q1, ?_⟩
      rw [← l1.len]
      exact h _ _ (made_int w o)
    | dK ob kvs =>
      cases ob with
      | false => obtain ⟨n, e, _⟩ := o; cases e
      | true =>
        obtain ⟨n, e, o⟩ := o
        cases e
        cases r with
        | dKO h1 e1 l1 =>
          refine ⟨_, call_lenD, _, _, rfl, h1, ?_⟩
          have := congrArg List.length e1
          rw [List.length_map, List.length_map] at this
          rw [this]
          exact h _ _ (made_int w o)
    | _ => obtain ⟨n, e, _⟩ := o; cases e
def o_abs : OpL := fun xs Q => match xs with
  | [.int i] => Q (.int (if i < 0 then -i else i))
  | _ => False
theorem cm_abs : CallM X (.builtin "abs") o_abs := by
  intro F H M A xs vs Q k w rl sl o h
  match xs, o with
  | [.int i], o =>
    obtain ⟨v, rfl, r⟩ := rl.inv1
    obtain ⟨rfl, _⟩ := r.of_int
    exact ⟨_, call_abs, _, rfl, h _ _ (made_int w o)⟩
def o_int : OpL := fun xs Q => match xs with
  | [.int i] => Q (.int i)
  | [.bl b] => Q (.int (if b then 1 else 0))
  | _ => False
theorem cm_int : CallM X (.type "int") o_int := by
  intro F H M A xs vs Q k w rl sl o h
  match xs, o with
  | [.int i], o =>
    obtain ⟨v, rfl, r⟩ := rl.inv1
    obtain ⟨rfl, _⟩ := r.of_int
    exact ⟨_, call_int1, .inl ⟨_, rfl, h _ _ (made_int w o)⟩⟩
  | [.bl i], o =>
    obtain ⟨v, rfl, r⟩ := rl.inv1
    obtain ⟨rfl, _⟩ := r.of_bl
    exact ⟨_, call_int1, .inr ⟨_, rfl, h _ _ (made_int w o)⟩⟩
def o_bool : OpL := fun xs Q => match xs with
  | [.int i] => Q (.bl (i != 0))
  | [.bl b] => Q (.bl b)
  | _ => False
theorem cm_bool : CallM X (.type "bool") o_bool := by
  intro F H M A xs vs Q k w rl sl o h
  match xs, o with
  | [.int i], o =>
    obtain ⟨v, rfl, r⟩ := rl.inv1
    obtain ⟨rfl, _⟩ := r.of_int
    exact ⟨_, call_bool1, .inl ⟨_, rfl, h _ _ (made_bl w o)⟩⟩
  | [.bl i], o =>
    obtain ⟨v, rfl, r⟩ := rl.inv1
    obtain ⟨rfl, _⟩ := r.of_bl
    exact ⟨_, call_bool1, .inr ⟨_, rfl, h _ _ (made_bl w o)⟩⟩
def o_max2 : OpL := fun xs Q => match xs with
  | [.int i, .int j] => Q (.int (if j > i then j else i))
  | _ => False
theorem cm_max2 (hc : X.calm = true) : CallM X (.builtin "max") o_max2 := by
  intro F H M A xs vs Q k w rl sl o h
  match xs, o with
  | [.int i, .int j], o =>
    obtain ⟨v, u, _, _, rfl, r1, r2, _⟩ := rl.inv2
    obtain ⟨rfl, _⟩ := r1.of_int
    obtain ⟨rfl, _⟩ := r2.of_int
    exact ⟨_, call_max2 hc, _, _, rfl, h _ _ (made_int w o)⟩
def o_min2 : OpL := fun xs Q => match xs with
  | [.int i, .int j] => Q (.int (if j < i then j else i))
  | _ => False
theorem cm_min2 (hc : X.calm = true) : CallM X (.builtin "min") o_min2 := by
  intro F H M A xs vs Q k w rl sl o h
  match xs, o with
  | [.int i, .int j], o =>
    obtain ⟨v, u, _, _, rfl, r1, r2, _⟩ := rl.inv2
    obtain ⟨rfl, _⟩ := r1.of_int
    obtain ⟨rfl, _⟩ := r2.of_int
    exact ⟨_, call_min2 hc, _, _, rfl, h _ _ (made_int w o)⟩
theorem intsV {K : PySem.W.Frag} : ∀ {ns : List Int} {vs : List V} {N : List Addr}, RpL K F H (ns.map D.int) vs N → vs = ns.map V.int
  | [], _, _, h => by cases h; rfl
  | n :: ns, _, _, h => by
    cases h with
    | cons h l =>
      obtain ⟨rfl, _⟩ := h.of_int
      rw [intsV l]; rfl
theorem blsV {K : PySem.W.Frag} : ∀ {ns : List Bool} {vs : List V} {N : List Addr}, RpL K F H (ns.map D.bl) vs N → vs = ns.map V.bl
  | [], _, _, h => by cases h; rfl
  | n :: ns, _, _, h => by
    cases h with
    | cons h l =>
      obtain ⟨rfl, _⟩ := h.of_bl
      rw [blsV l]; rfl
/-- a list of ints, of truths -/
def o_ints (g : List Int → D) : OpL := fun xs Q => ∃ x ns, xs = [x] ∧ lstOf x = some (ns.map D.int) ∧ Q (g ns)
def o_bls (g : List Bool → Bool) : OpL := fun xs Q => ∃ x ns, xs = [x] ∧ lstOf x = some (ns.map D.bl) ∧ Q (.bl (g ns))
abbrev o_sum : OpL := o_ints fun ns => .int ns.sum
theorem cm_sum (hc : X.calm = true) : CallM X (.builtin "sum") o_sum := by
  intro F H M A xs vs Q k w rl sl ⟨x, ns, e, e1, o⟩ h
  subst e
  obtain ⟨v, rfl, r⟩ := rl.inv1
  obtain ⟨a, us, _, rfl, q1, l1, _⟩ := r.seq w.sub e1
  rw [intsV l1] at q1
  exact ⟨_, cr_sum hc, a, ns, rfl, q1, h _ _ (made_int w o)⟩
abbrev o_all : OpL := o_bls fun ns => ns.all id
theorem cm_all (hc : X.calm = true) : CallM X (.builtin "all") o_all := by
  intro F H M A xs vs Q k w rl sl ⟨x, ns, e, e1, o⟩ h
  subst e
  obtain ⟨v, rfl, r⟩ := rl.inv1
  obtain ⟨a, us, _, rfl, q1, l1, _⟩ := r.seq w.sub e1
  rw [blsV l1] at q1
  exact ⟨_, cr_all hc, a, ns, rfl, q1, h _ _ (made_bl w o)⟩
abbrev o_any : OpL := o_bls fun ns => ns.any id
theorem cm_any (hc : X.calm = true) : CallM X (.builtin "any") o_any := by
  intro F H M A xs vs Q k w rl sl ⟨x, ns, e, e1, o⟩ h
  subst e
  obtain ⟨v, rfl, r⟩ := rl.inv1
  obtain ⟨a, us, _, rfl, q1, l1, _⟩ := r.seq w.sub e1
  rw [blsV l1] at q1
  exact ⟨_, cr_any hc, a, ns, rfl, q1, h _ _ (made_bl w o)⟩
/-- list(x), tuple(x) of a list or a tuple -/
def seqD : D → Option (List D)
  | .tup xs => some xs
  | d => lstOf d
def o_list : OpL := fun xs Q => ∃ x ys, xs = [x] ∧ seqD x = some ys ∧ fzL ys = ys ∧ Q (.lst true ys)
theorem cm_list : CallM X (.type "list") o_list := by
  intro F H M A xs vs Q k w rl sl ⟨x, ys, e, e1, e2, o⟩ h
  subst e
  obtain ⟨v, rfl, r⟩ := rl.inv1
  have seq : lstOf x = some ys → ∃ r, CallR X (.type "list") r ∧ r [v] H k := fun e => by
    obtain ⟨a, us, _, rfl, q1, l1, _⟩ := r.seq w.sub e
    exact ⟨_, call_list_of, a, us, rfl, .inl q1, fun p hp => h _ _ (made_lst w hp (l1.ice0 e2) o)⟩
  cases x with
  | tup zs =>
    cases e1
    obtain ⟨a, us, rfl, q1, l1⟩ := r.tpl w.sub
    exact ⟨_, call_list_of, a, us, rfl, .inr q1, fun p hp => h _ _ (made_lst w hp (l1.ice0 e2) o)⟩
  | _ => exact seq e1
def o_tuple : OpL := fun xs Q => ∃ x ys, xs = [x] ∧ seqD x = some ys ∧ fzL ys = ys ∧ Q (.tup ys)
theorem cm_tuple : CallM X (.type "tuple") o_tuple := by
  intro F H M A xs vs Q k w rl sl ⟨x, ys, e, e1, e2, o⟩ h
  subst e
  obtain ⟨v, rfl, r⟩ := rl.inv1
  have seq : lstOf x = some ys → ∃ r, CallR X (.type "tuple") r ∧ r [v] H k := fun e => by
    obtain ⟨a, us, _, rfl, q1, l1, _⟩ := r.seq w.sub e
    exact ⟨_, call_tuple_of, a, us, rfl, .inl ⟨q1, fun p hp => h _ _ (made_tup w hp (l1.ice0 e2) o)⟩⟩
  cases x with
  | tup zs =>
    cases e1
    obtain ⟨a, us, rfl, q1, l1⟩ := r.tpl w.sub
    exact ⟨_, call_tuple_of, a, us, rfl, .inr ⟨q1, h _ _ (made0 w (r.ice0 (by rw [fz, e2])) o)⟩⟩
  | _ => exact seq e1
def o_strI : OpL := fun xs Q => match xs with
  | [.int i] => i.natAbs.log2 < 1920 ∧ Q (.str (toString i))
  | [.str a] => Q (.str a)
  | _ => False
theorem cm_str : CallM X (.type "str") o_strI := by
  intro F H M A xs vs Q k w rl sl o h
  match xs, o with
  | [.int i], o =>
    obtain ⟨v, rfl, r⟩ := rl.inv1
    obtain ⟨rfl, _⟩ := r.of_int
    exact ⟨_, call_str_int, _, rfl, o.1, h _ _ (made_str w o.2)⟩
  | [.str i], o =>
    obtain ⟨v, rfl, r⟩ := rl.inv1
    obtain ⟨rfl, _⟩ := r.of_str
    exact ⟨_, SkE.call_str_str, _, rfl, h _ _ (made_str w o)⟩

/-! ### subscripts -/
def IxM (X : Cx) (o : Op2) : Prop := ∀ {F H : Hp} {M A B : List Addr} {x y : D} {v u : V} {Q : D → Prop} {k : VK}, Wd F H M → Rp X.K F H x v A → Rp X.K F H y u B → (∀ a ∈ A, a ∈ M) → (∀ a ∈ B, a ∈ M) → o x y Q →
  (∀ z H', Made X F H Q z H' → k z H') → ∃ r, IxR X r ∧ r v u H k
theorem ixU : IxR X (fun v u H Q => ∃ r, IxR X r ∧ r v u H Q) := fun value slice pins s σ H x y v u Q I rx ry ⟨r, h, q⟩ => h value slice pins s σ H x y v u Q I rx ry q
def o_ix : Op2 := fun x y Q => match x with
  | .tup xs => ∃ i d, y = .int i ∧ atI xs i = some d ∧ fz d = d ∧ Q d
  | .str z => ∃ i c, y = .int i ∧ z.length ≤ sizeLine ∧ atI z.cps.toList i = some c ∧ Q (.str ⟨#[c]⟩)
  | .dK _ kvs => ∃ k d, keyD y = some k ∧ getK kvs k = some d ∧ fz d = d ∧ Q d
  | x => ∃ xs i d, lstOf x = some xs ∧ y = .int i ∧ atI xs i = some d ∧ fz d = d ∧ Q d
theorem RpL.atI {K : PySem.W.Frag} {ds : List D} {vs : List V} {N : List Addr} {i : Int} {d : D} (h : RpL K F H ds vs N) (e : L2.atI ds i = some d) : ∃ v N', L2.atI vs i = some v ∧ Rp K F H d v N' := by
  unfold L2.atI at e ⊢
  rw [← h.len]
  cases e1 : ixN ds.length i with
  | none => rw [e1] at e; cases e
  | some j =>
    rw [e1] at e
    obtain ⟨v, N', e2, r, _⟩ := h.get (j := j) e
    exact ⟨v, N', e2, r⟩
theorem RpL.val {K : PySem.W.Frag} {κ : Type} [DecidableEq κ] : ∀ {kvs : List (κ × D)} {hk : List (κ × V)} {N : List Addr} {k : κ} {d : D}, hk.map (·.1) = kvs.map (·.1) → RpL K F H (kvs.map (·.2)) (hk.map (·.2)) N → getK kvs k = some d →
    ∃ v N', getK hk k = some v ∧ Rp K F H d v N' ∧ ∀ a ∈ N', a ∈ N
  | [], _, _, _, _, _, _, e => by cases e
  | _ :: _, [], _, _, _, h, _, _ => by cases h
  | (a, x) :: kvs, (b, y) :: hk, N, k, d, h, l, e => by
    simp only [List.map_cons, List.cons.injEq] at h
    obtain ⟨rfl, h⟩ := h
    cases l with
    | cons r l =>
      unfold getK at e ⊢
      rw [List.find?_cons] at e ⊢
      by_cases q : b = k
      · simp only [q, decide_true, Option.map_some, Option.some.injEq] at e ⊢
        subst e
        exact ⟨y, _, rfl, r, fun a q => List.mem_append_left _ q⟩
      · simp only [q, decide_false] at e ⊢
        obtain ⟨v, N', e1, r', s'⟩ := RpL.val (k := k) (d := d) h l e
        exact ⟨v, N', e1, r', fun a q => List.mem_append_right _ (s' a q)⟩
theorem ix_dict (hu : X.A.units + 1 < cLine) : IxR X (fun x y H Q => ∃ a v, x = .ref a ∧ DGet H a y (some v) ∧ Q v H) := by
  intro value slice pins s σ H x y v u Q I rx ry ⟨a, z, ea, g, q⟩ hs
  subst ea
  cases rx
  exact tail_any (dict_typeIs I g) PySem.F.slot_dict_getitem.lookup (d_getItem hu I g ry fun w' s3 I3 rw' => ⟨z, H, I3, rw', q⟩) hs
theorem im_ix (hu : X.A.units + 1 < cLine) : IxM X o_ix := by
  intro F H M A B x y v u Q k w rx ry sx sy o h
  have gen : (∃ xs i d, lstOf x = some xs ∧ y = .int i ∧ atI xs i = some d ∧ fz d = d ∧ Q d) → ∃ r, IxR X r ∧ r v u H k := fun ⟨xs, i, d, e0, e1, e2, e3, o'⟩ => by
    subst e1
    obtain ⟨rfl, _⟩ := ry.of_int
    obtain ⟨a, us, _, rfl, q1, l1, _⟩ := rx.seq w.sub e0
    obtain ⟨z, N', e4, r⟩ := l1.atI e2
    exact ⟨_, ix_list, a, us, i, z, rfl, rfl, q1, e4, h _ _ (made0 w (r.ice0 e3) o')⟩
  cases x with
  | tup xs =>
    obtain ⟨i, d, e1, e2, e3, o⟩ := o
    subst e1
    obtain ⟨rfl, _⟩ := ry.of_int
    obtain ⟨a, us, rfl, q1, l1⟩ := rx.tpl w.sub
    obtain ⟨z, N', e4, r⟩ := l1.atI e2
    exact ⟨_, ix_tup, a, us, i, z, rfl, rfl, q1, e4, h _ _ (made0 w (r.ice0 e3) o)⟩
  | str z =>
    obtain ⟨i, c, e1, hl, e2, o⟩ := o
    subst e1
    obtain ⟨rfl, _⟩ := ry.of_int
    obtain ⟨rfl, _⟩ := rx.of_str
    exact ⟨_, ix_str, z, i, c, rfl, rfl, hl, e2, h _ _ (made_str w o)⟩
  | dK ob kvs =>
    obtain ⟨key, d, e1, e2, e3, o⟩ := o
    obtain ⟨a, hk, M', rfl, q1, ek, l1, _⟩ := rx.dict w.sub
    have ev := keyD_v ry e1
    subst ev
    obtain ⟨z, N', e4, r, _⟩ := RpL.val ek l1 e2
    exact ⟨_, ix_dict hu, a, z, rfl, .inl ⟨hk, key, q1, rfl, e4.symm⟩, h _ _ (made0 w (r.ice0 e3) o)⟩
  | non => exact gen o
  | bl _ => exact gen o
  | int _ => exact gen o
  | lst _ _ => exact gen o
  | frl _ => exact gen o
  | dT _ _ => exact gen o
  | ins _ _ _ => exact gen o
  | rng _ _ => exact gen o
  | hole _ => exact gen o
  | off => exact gen o
end
section
variable {X : Cx}
theorem me_ix {a b : Expr} {pos : Pos} {o : Op2} {oa ob : Opd} (ho : IxM X o) (ha : MO X a oa) (hb : MO X b ob) (hs : PlainIx b := by exact fun _ _ => rfl) : ME X (.Subscript a b pos) (wop2 o oa ob) := ⟨fun {F H M σ ds Q} w0 s0 q => by
  refine to_wE (pe_ix ixU (pe_w a) (pe_w b) hs) ?_
  refine (ha.run w0 s0 (k := fun t s1 => _) q).imp fun v H1 ⟨t, ds1, F1, N, M1, w1, t1, r1, s1, k1⟩ => ?_
  refine (hb.run (w1.part (List.sublist_append_right _ _)) s1 (k := fun t s1 => _) k1).imp fun u H2 ⟨t', ds2, F2, N2, M2, w2, t2, r2, s2, k2⟩ => ?_
  have n := next w0 w1 t1 w2 t2
  obtain ⟨x, y, e1, e2, o1, o2, k2⟩ := k2
  obtain ⟨A, ra, sa⟩ := (r1.mono n.up n.same).look s2 e1 (on_ne o1)
  obtain ⟨B, rb, sb⟩ := r2.look s2 e2 (on_ne o2)
  exact ho n.wd ra rb (fun a h => by have := sa a h; simp only [List.mem_append] at this ⊢; rcases this with h | h <;> simp [h]) (fun a h => by have := sb a h; simp only [List.mem_append] at this ⊢; rcases this with h | h <;> simp [h]) k2
    fun z H3 m => made_res w0 n.wd n.tr s2 m⟩
end
end M

namespace M
open PySem PySem.Spec PyProof.Rows L2

structure DEnds where
  nx : DS → Prop
  rt : D → DS → Prop
  bk : DS → Prop := fun _ => False
  ct : DS → Prop := fun _ => False
abbrev DSt := DEnds → DS → Prop
abbrev DG := D → DS → (DS → Prop) → Prop
/-- the slots ro hold what they held -/
def Pin (ro : List Nat) (σ σ' : L2.St) : Prop := σ'.length = σ.length ∧ ∀ i ∈ ro, σ'[i]? = σ[i]?
theorem Pin.refl (ro : List Nat) (σ : L2.St) : Pin ro σ σ := ⟨rfl, fun _ _ => rfl⟩
theorem Pin.trans {ro : List Nat} {σ σ1 σ2 : L2.St} (a : Pin ro σ σ1) (b : Pin ro σ1 σ2) : Pin ro σ σ2 := ⟨b.1.trans a.1, fun i h => (b.2 i h).trans (a.2 i h)⟩
def AtS (X : Cx) (ro : List Nat) (σ : L2.St) (F H : Hp) (M : List Addr) (P : DS → Prop) : L2.St → Hp → Prop := fun σ' H' => ∃ ds' F' M', Wd F' H' M' ∧ Tr F H M F' H' M' ∧ SR X.K F' H' ds' σ' M' ∧ Pin ro σ σ' ∧ P ds'
def AtR (X : Cx) (ro : List Nat) (σ : L2.St) (F H : Hp) (M : List Addr) (P : D → DS → Prop) : VK := fun v H' => ∃ σ' d ds' F' N M', Wd F' H' (N ++ M') ∧ Tr F H M F' H' (N ++ M') ∧ Rp X.K F' H' d v N ∧ SR X.K F' H' ds' σ' M' ∧ Pin ro σ σ' ∧ P d ds'
def mE (X : Cx) (ro : List Nat) (σ : L2.St) (F H : Hp) (M : List Addr) (E : DEnds) : Ends := ⟨AtS X ro σ F H M E.nx, AtR X ro σ F H M E.rt, AtS X ro σ F H M E.bk, AtS X ro σ F H M E.ct⟩
structure MS (X : Cx) (ro : List Nat) (st : Stmt) (w : DSt) : Prop where
  run : ∀ {F H : Hp} {M : List Addr} {σ : L2.St} {ds : DS} {E : DEnds}, Wd F H M → SR X.K F H ds σ M → w E ds → wS X st (mE X ro σ F H M E) σ H
structure MSs (X : Cx) (ro : List Nat) (st : List Stmt) (w : DSt) : Prop where
  run : ∀ {F H : Hp} {M : List Addr} {σ : L2.St} {ds : DS} {E : DEnds}, Wd F H M → SR X.K F H ds σ M → w E ds → wSs X st (mE X ro σ F H M E) σ H
structure MG (X : Cx) (ro : List Nat) (tg : Expr) (g : DG) : Prop where
  run : ∀ {F H : Hp} {M N : List Addr} {σ : L2.St} {ds : DS} {d : D} {v : V} {Q : DS → Prop}, Wd F H (N ++ M) → Rp X.K F H d v N → SR X.K F H ds σ M → g d ds Q → wG X tg v σ H (AtS X ro σ F H (N ++ M) Q)

section
variable {X : Cx} {ro : List Nat} {pos : Pos}
theorem SP.imp {pins : List (Addr × Obj)} {D D' : Ends} {f : Flow} {s' : Shared} (h : SP X pins D f s') (nx : ∀ σ H, D.nx σ H → D'.nx σ H) (rt : ∀ v H, D.rt v H → D'.rt v H) (bk : ∀ σ H, D.bk σ H → D'.bk σ H) (ct : ∀ σ H, D.ct σ H → D'.ct σ H) : SP X pins D' f s' := by
  cases f with
  | next => obtain ⟨σ', H', I, q⟩ := h; exact ⟨σ', H', I, nx _ _ q⟩
  | brk => obtain ⟨σ', H', I, q⟩ := h; exact ⟨σ', H', I, bk _ _ q⟩
  | cont => obtain ⟨σ', H', I, q⟩ := h; exact ⟨σ', H', I, ct _ _ q⟩
  | ret u => obtain ⟨v, σ', H', I, r, q⟩ := h; exact ⟨v, σ', H', I, r, rt _ _ q⟩
theorem wS.imp {st : Stmt} {D D' : Ends} {σ : L2.St} {H : Hp} (h : wS X st D σ H) (nx : ∀ σ H, D.nx σ H → D'.nx σ H) (rt : ∀ v H, D.rt v H → D'.rt v H) (bk : ∀ σ H, D.bk σ H → D'.bk σ H) (ct : ∀ σ H, D.ct σ H → D'.ct σ H) : wS X st D' σ H := fun pins s I =>
  thn (h pins s I) fun _ _ q => SP.imp q nx rt bk ct
theorem wSs.imp {st : List Stmt} {D D' : Ends} {σ : L2.St} {H : Hp} (h : wSs X st D σ H) (nx : ∀ σ H, D.nx σ H → D'.nx σ H) (rt : ∀ v H, D.rt v H → D'.rt v H) (bk : ∀ σ H, D.bk σ H → D'.bk σ H) (ct : ∀ σ H, D.ct σ H → D'.ct σ H) : wSs X st D' σ H := fun pins s I =>
  thn (h pins s I) fun _ _ q => SP.imp q nx rt bk ct
theorem wG.imp {tg : Expr} {v : V} {σ : L2.St} {H : Hp} {Q Q' : L2.St → Hp → Prop} (h : wG X tg v σ H Q) (k : ∀ σ' H', Q σ' H' → Q' σ' H') : wG X tg v σ H Q' := fun pins s u I r =>
  thn (h pins s u I r) fun _ _ ⟨σ', H', I', q⟩ => ⟨σ', H', I', k _ _ q⟩
section
variable {σ σ1 : L2.St} {F H F1 H1 : Hp} {M M1 : List Addr} {P P' : DS → Prop}
theorem AtS.step (w0 : Wd F H M) (w1 : Wd F1 H1 M1) (t1 : Tr F H M F1 H1 M1) (p : Pin ro σ σ1) {σ' : L2.St} {H' : Hp} (h : AtS X ro σ1 F1 H1 M1 P σ' H') : AtS X ro σ F H M P σ' H' := by
  obtain ⟨ds', F', M', w', t', s', p', q⟩ := h
  exact ⟨ds', F', M', w', t1.trans w0 w1 t', s', p.trans p', q⟩
theorem AtR.step {P : D → DS → Prop} (w0 : Wd F H M) (w1 : Wd F1 H1 M1) (t1 : Tr F H M F1 H1 M1) (p : Pin ro σ σ1) {σ' : V} {H' : Hp} (h : AtR X ro σ1 F1 H1 M1 P σ' H') : AtR X ro σ F H M P σ' H' := by
  obtain ⟨σ', d, ds', F', N, M', w', t', r', s', p', q⟩ := h
  exact ⟨σ', d, ds', F', N, M', w', t1.trans w0 w1 t', r', s', p.trans p', q⟩
theorem wS.step {st : Stmt} {E : DEnds} (w0 : Wd F H M) (w1 : Wd F1 H1 M1) (t1 : Tr F H M F1 H1 M1) (p : Pin ro σ σ1) {σ' : L2.St} {H' : Hp} (h : wS X st (mE X ro σ1 F1 H1 M1 E) σ' H') : wS X st (mE X ro σ F H M E) σ' H' :=
  wS.imp h (fun _ _ => AtS.step w0 w1 t1 p) (fun _ _ => AtR.step w0 w1 t1 p) (fun _ _ => AtS.step w0 w1 t1 p) fun _ _ => AtS.step w0 w1 t1 p
theorem wSs.step {st : List Stmt} {E : DEnds} (w0 : Wd F H M) (w1 : Wd F1 H1 M1) (t1 : Tr F H M F1 H1 M1) (p : Pin ro σ σ1) {σ' : L2.St} {H' : Hp} (h : wSs X st (mE X ro σ1 F1 H1 M1 E) σ' H') : wSs X st (mE X ro σ F H M E) σ' H' :=
  wSs.imp h (fun _ _ => AtS.step w0 w1 t1 p) (fun _ _ => AtR.step w0 w1 t1 p) (fun _ _ => AtS.step w0 w1 t1 p) fun _ _ => AtS.step w0 w1 t1 p
theorem AtS.here {ds : DS} (w0 : Wd F H M) (s0 : SR X.K F H ds σ M) (q : P ds) : AtS X ro σ F H M P σ H := ⟨ds, F, M, w0, Tr.refl F H M, s0, Pin.refl ro σ, q⟩
end

/-! ### blocks -/
def wnext : DSt := fun E s => E.nx s
def wseq (a b : DSt) : DSt := fun E s => a { E with nx := b E } s
def wbrk : DSt := fun E s => E.bk s
def wcont : DSt := fun E s => E.ct s
def wnever : DSt := fun _ _ => False
theorem mss_nil : MSs X ro [] wnext := ⟨fun w0 s0 q => to_wSs pss_nil (AtS.here w0 s0 q)⟩
theorem mss_cons {st : Stmt} {rest : List Stmt} {a b : DSt} (h1 : MS X ro st a) (h2 : MSs X ro rest b) : MSs X ro (st :: rest) (wseq a b) := ⟨fun {F H M σ ds E} w0 s0 q => by
  refine to_wSs (pss_cons (ps_w st) (pss_w rest)) ?_
  refine wS.imp (h1.run w0 s0 q) (fun σ1 H1 h => ?_) (fun _ _ h => h) (fun _ _ h => h) (fun _ _ h => h)
  obtain ⟨ds1, F1, M1, w1, t1, s1, p1, k1⟩ := h
  exact wSs.step w0 w1 t1 p1 (h2.run w1 s1 k1)⟩
theorem mss_one {st : Stmt} {a : DSt} (h1 : MS X ro st a) : MSs X ro [st] a := ⟨fun w0 s0 q => to_wSs (pss_one (ps_w st)) (h1.run w0 s0 q)⟩
theorem mss_never {st : List Stmt} : MSs X ro st wnever := ⟨fun _ _ q => q.elim⟩
theorem ms_never {st : Stmt} : MS X ro st wnever := ⟨fun _ _ q => q.elim⟩
theorem ms_pass : MS X ro (.Pass pos) wnext := ⟨fun w0 s0 q => to_wS ps_pass (AtS.here w0 s0 q)⟩
theorem ms_brk : MS X ro (.Break pos) wbrk := ⟨fun w0 s0 q => to_wS ps_break (AtS.here w0 s0 q)⟩
theorem ms_cont : MS X ro (.Continue pos) wcont := ⟨fun w0 s0 q => to_wS ps_continue (AtS.here w0 s0 q)⟩
def wret (a : DE) : DSt := fun E s => a s E.rt
def wretN : DSt := fun E s => E.rt .non s
theorem ms_ret {e : Expr} {a : DE} (h : ME X e a) : MS X ro (.Return (some e) pos) (wret a) := ⟨fun {F H M σ ds E} w0 s0 q => to_wS (ps_ret (pe_w e)) ((h.run w0 s0 q).imp fun v H1 ⟨d, ds1, F1, N, M1, w1, t1, r1, s1, k1⟩ => ⟨σ, d, ds1, F1, N, M1, w1, t1, r1, s1, Pin.refl ro σ, k1⟩)⟩
theorem ms_retN : MS X ro (.Return none pos) wretN := ⟨fun {F H M σ ds E} w0 s0 q => to_wS ps_retN ⟨σ, .non, ds, F, [], M, w0, Tr.refl F H M, .non, s0, Pin.refl ro σ, q⟩⟩
def wdrop (a : DE) : DSt := fun E s => a s fun _ s1 => E.nx s1
theorem ms_expr {e : Expr} {a : DE} (h : ME X e a) (hs : swapsWith e none pos.line X.env = pure false := by rfl) : MS X ro (.Expr e pos) (wdrop a) := ⟨fun {F H M σ ds E} w0 s0 q => to_wS (ps_expr (pe_w e) hs) ((h.run w0 s0 (Q := fun x s1 => _) q).imp fun v H1 ⟨d, ds1, F1, N, M1, w1, t1, r1, s1, k1⟩ =>
  ⟨ds1, F1, M1, w1.part (List.sublist_append_right _ _), t1.drop fun a h => List.mem_append_right _ h, s1, Pin.refl ro σ, k1⟩)⟩
theorem ms_doc {x : Str} {j : Nat} {p : Pos} : MS X ro (.Expr (.Constant (.str x) j p) pos) wnext := ⟨fun w0 s0 q => to_wS ps_doc (AtS.here w0 s0 q)⟩
def wifS (t : DT) (a b : DSt) : DSt := fun E s => t s fun c s1 => if c = true then a E s1 else b E s1
theorem ms_if {c : Expr} {p q : List Stmt} {t : DT} {a b : DSt} (hc : MT X c t) (ha : MSs X ro p a) (hb : MSs X ro q b) : MS X ro (.If c p q pos) (wifS t a b) := ⟨fun {F H M σ ds E} w0 s0 h => by
  refine to_wS (ps_if (pt_w c) (pss_w p) (pss_w q)) ?_
  refine (hc.run w0 s0 (Q := fun x s1 => _) h).imp fun v H1 ⟨ds1, F1, M1, w1, t1, s1, k1⟩ => ?_
  cases v with
  | true => exact wSs.step w0 w1 t1 (Pin.refl ro σ) (ha.run w1 s1 k1)
  | false => exact wSs.step w0 w1 t1 (Pin.refl ro σ) (hb.run w1 s1 k1)⟩

/-! ### targets, assignments -/
theorem set_slot {K : PySem.W.Frag} {F H : Hp} {ds : DS} {σ : L2.St} {M N : List Addr} (w : Wd F H (N ++ M)) (s : SR K F H ds σ M) {i : Nat} (hi : i < ds.length) {d : D} {v : V} (r : Rp K F H d v N) :
    ∃ M', Wd F H M' ∧ (∀ a ∈ M', a ∈ N ++ M) ∧ SR K F H (ds.set i d) (σ.set i (some v)) M' := by
  obtain ⟨x, N0, R, e, r0, p, put⟩ := s.take (List.getElem?_eq_getElem hi)
  obtain ⟨M', p', s'⟩ := put F H d (some v) N (fun _ _ h => h) (fun _ _ => rfl) (.on r)
  have hs : (N ++ R).Sublist (N ++ (N0 ++ R)) := List.Sublist.append_left (List.sublist_append_right _ _) _
  have hp : (N ++ (N0 ++ R)).Perm (N ++ M) := List.Perm.append_left N p.symm
  exact ⟨M', ((w.perm hp).part hs).perm p', fun a h => hp.mem_iff.mp (hs.subset (p'.mem_iff.mp h)), s'⟩
def gname (i : Nat) : DG := fun d s Q => i < s.length ∧ Q (s.set i d)
theorem pin_set {σ : L2.St} {i : Nat} (h : i ∉ ro) (x : Option V) : Pin ro σ (σ.set i x) := ⟨List.length_set, fun j hj => List.getElem?_set_ne (fun z => h (by rw [z]; exact hj))⟩
theorem mg_name {i : Nat} {x : Str} (hN : X.N.Nodup) (hi : X.N[i]? = some x) (hx : Loc X.env.scope x) (hr : i ∉ ro := by decide) (hf : X.fn x = true ∨ X.env.scope.names.lookup x = some .local := by first | exact .inl rfl | exact .inr rfl | assumption) : MG X ro (.Name x pos) (gname i) :=
  ⟨fun {F H M N σ ds d v Q} w0 r0 s0 q => to_wG (pg_name hN hi hx hf) (by
    obtain ⟨M', w', sub, s'⟩ := set_slot w0 s0 q.1 r0
    exact ⟨_, F, M', w', (Tr.refl F H (N ++ M)).drop sub, s', pin_set hr _, q.2⟩)⟩
abbrev DGs := List D → DS → (DS → Prop) → Prop
structure MGs (X : Cx) (ro : List Nat) (tg : List Expr) (g : DGs) : Prop where
  run : ∀ {F H : Hp} {M N : List Addr} {σ : L2.St} {ds : DS} {xs : List D} {vs : List V} {Q : DS → Prop}, Wd F H (N ++ M) → RpL X.K F H xs vs N → SR X.K F H ds σ M → g xs ds Q →
    ∃ t, PGs X tg t ∧ t vs σ H (AtS X ro σ F H (N ++ M) Q)
def gnil : DGs := fun xs s Q => xs = [] ∧ Q s
def gcons (g : DG) (r : DGs) : DGs := fun xs s Q => ∃ x ys, xs = x :: ys ∧ g x s fun s1 => r ys s1 Q
theorem mgs_nil : MGs X ro [] gnil := ⟨fun {F H M N σ ds xs vs Q} w0 r0 s0 q => by
  obtain ⟨rfl, q⟩ := q
  cases r0
  exact ⟨_, pgs_nil, rfl, ds, F, M, w0, Tr.refl F H _, s0, Pin.refl ro σ, q⟩⟩
theorem pgs_w (ts : List Expr) : PGs X ts (fun vs σ H Q => ∃ t, PGs X ts t ∧ t vs σ H Q) := ⟨fun pins s σ H vs us Q I r ⟨t, h, q⟩ => h.run pins s σ H vs us Q I r q⟩
theorem PGs.post {ts : List Expr} {t : TGs} (h : PGs X ts t) {k : L2.St → Hp → Prop} : PGs X ts (fun vs σ H Q => t vs σ H k ∧ ∀ σ' H', k σ' H' → Q σ' H') := ⟨fun pins s σ H vs us Q I r q =>
  thn (h.run pins s σ H vs us k I r q.1) fun _ s' ⟨σ', H', I', q'⟩ => ⟨σ', H', I', q.2 _ _ q'⟩⟩
theorem mgs_cons {e : Expr} {es : List Expr} {g : DG} {r : DGs} (h1 : MG X ro e g) (h2 : MGs X ro es r) (hs : (assignEach (e :: es) X.env).map (·.2) = assign e X.env :: (assignEach es X.env).map (·.2) := by rfl) : MGs X ro (e :: es) (gcons g r) := ⟨fun {F H M N σ ds xs vs Q} w0 r0 s0 q => by
  obtain ⟨x, ys, rfl, q⟩ := q
  cases r0 with
  | cons rx ry =>
    rename_i v vs A B
    refine ⟨_, pgs_cons (pg_w e) (pgs_w es) hs, v, vs, rfl, ?_⟩
    -- A ++ B ++ M: the second part beside
    have w0' : Wd F H ((A ++ M) ++ B) := w0.perm (by rw [List.append_assoc, List.append_assoc]; exact List.Perm.append_left A List.perm_append_comm)
    have wA : Wd F H (A ++ M) := w0'.part (List.sublist_append_left _ _)
    refine wG.imp (h1.run wA rx s0 q) fun σ1 H1 ⟨ds1, F1, M1, w1, t1, s1, p1, k1⟩ => ?_
    have b := frame w0' t1 w1
    have w1' : Wd F1 H1 (B ++ M1) := b.wd.perm List.perm_append_comm
    have ry' := b.rpL ry fun a h => h
    obtain ⟨t, ht, q2⟩ := h2.run w1' ry' s1 k1
    refine ⟨_, PGs.post ht, q2, fun σ' H' ⟨ds', F', M', w', t', s', p', k'⟩ => ?_⟩
    have tb : Tr F H ((A ++ B) ++ M) F1 H1 (B ++ M1) := (b.tr.wide fun a h => by simp only [List.mem_append] at h ⊢; rcases h with (h | h) | h <;> simp [h]).drop fun a h => by simp only [List.mem_append] at h ⊢; rcases h with h | h <;> simp [h]
    exact ⟨ds', F', M', w', tb.trans w0 w1' t', s', p1.trans p', k'⟩⟩
def gtup (n : Nat) (g : DGs) : DG := fun d s Q => ∃ xs, d = .tup xs ∧ xs.length = n ∧ g xs s Q
theorem mg_tup {es : List Expr} {k n : Nat} {g : DGs} (hc : X.calm = true) (h : MGs X ro es g) (hn : (assignEach es X.env).length = n := by rfl) (hst : (assignEach es X.env).findIdx? (·.1) = none := by rfl) : MG X ro (.Tuple es k pos) (gtup n g) :=
  ⟨fun {F H M N σ ds d v Q} w0 r0 s0 q => by
    obtain ⟨xs, rfl, hl, q⟩ := q
    obtain ⟨a, vs, rfl, q1, l1⟩ := r0.tpl w0.sub
    obtain ⟨t, ht, q2⟩ := h.run w0 l1 s0 q
    refine to_wG (pg_tup hc (PGs.post (k := AtS X ro σ F H (N ++ M) Q) ht) hn hst) ⟨a, vs, rfl, q1, by rw [← l1.len]; exact hl, q2, fun _ _ h => h⟩⟩
def wasg (g : DG) (a : DE) : DSt := fun E s => a s fun d s1 => g d s1 E.nx
theorem ms_asgN {i : Nat} {x : Str} {e : Expr} {a : DE} {pos' : Pos} (h : ME X e a) (hN : X.N.Nodup) (hi : X.N[i]? = some x) (hx : Loc X.env.scope x) (hr : i ∉ ro := by decide) (hs : swapsWith e (some (.Name x pos')) pos.line X.env = pure false := by rfl)
    (hf : X.fn x = true ∨ X.env.scope.names.lookup x = some .local := by first | exact .inl rfl | exact .inr rfl | assumption) : MS X ro (.Assign [.Name x pos'] e pos) (wasg (gname i) a) := ⟨fun {F H M σ ds E} w0 s0 q => by
  refine to_wS (ps_set hN hi hx (pe_w e) hs hf) ?_
  refine (h.run w0 s0 (Q := fun x s1 => _) q).imp fun v H1 ⟨d, ds1, F1, N, M1, w1, t1, r1, s1, k1⟩ => ?_
  obtain ⟨M', w', sub, s'⟩ := set_slot w1 s1 k1.1 r1
  exact ⟨_, F1, M', w', t1.drop sub, s', pin_set hr _, k1.2⟩⟩
theorem ms_asg {tg e : Expr} {a : DE} {g : DG} (h : ME X e a) (hg : MG X ro tg g) (hs : swapsWithSole [tg] e pos.line X.env = pure false := by rfl) (hw : swappedStores [tg] e X.env = pure none := by rfl)
    (h1 : (assignEach [tg] X.env).map (·.2) = [assign tg X.env] := by rfl) : MS X ro (.Assign [tg] e pos) (wasg g a) := ⟨fun {F H M σ ds E} w0 s0 q => by
  refine to_wS (ps_asg (pe_w e) (pg_w tg) hs hw h1) ?_
  refine (h.run w0 s0 (Q := fun x s1 => _) q).imp fun v H1 ⟨d, ds1, F1, N, M1, w1, t1, r1, s1, k1⟩ => ?_
  exact wG.imp (hg.run w1 r1 s1 k1) fun σ' H' hh => hh.step w0 w1 t1 (Pin.refl ro σ)⟩
/-- a, b = x, y with plain local names -/
def wpar (i j : Nat) (as : DA) : DSt := fun E s => as s fun xs s1 => ∃ x y, xs = [x, y] ∧ i < s1.length ∧ j < s1.length ∧ E.nx ((s1.set i x).set j y)
theorem ms_par {i j : Nat} {x y : Str} {a b : Expr} {as : DA} {px py pt : Pos} {kt k2 pt2} (ha : MEs X [a, b] as) (hc : X.calm = true) (hN : X.N.Nodup) (hi : X.N[i]? = some x) (hj : X.N[j]? = some y) (hij : i ≠ j) (hri : i ∉ ro := by decide) (hrj : j ∉ ro := by decide)
    (hx : X.env.scope.names.lookup x = some .local := by rfl) (hy : X.env.scope.names.lookup y = some .local := by rfl)
    (hw : swappedStores [.Tuple [.Name x px, .Name y py] kt pt] (.Tuple [a, b] k2 pt2) X.env = pure (some [x, y]) := by rfl)
    (hs : swapsWithSole [.Tuple [.Name x px, .Name y py] kt pt] (.Tuple [a, b] k2 pt2) pos.line X.env = pure false := by rfl) :
    MS X ro (.Assign [.Tuple [.Name x px, .Name y py] kt pt] (.Tuple [a, b] k2 pt2) pos) (wpar i j as) := ⟨fun {F H M σ ds E} w0 s0 q => by
  refine to_wS (ps_par hc hN hi hj hij hx hy (pa_w _) hw hs) ?_
  refine (ha.run w0 s0 (Q := fun x s1 => _) q).imp fun vs H1 ⟨xs, ds1, F1, N, M1, hv, w1, t1, r1, s1, d1, d2, e, l1, l2, k1⟩ => ?_
  subst e
  cases r1 with
  | @cons _ v1 _ _ A B ra rb =>
    obtain ⟨v2, rfl, rb'⟩ := rb.inv1
    refine ⟨v1, v2, rfl, ?_⟩
    have w1' : Wd F1 H1 ((A ++ M1) ++ B) := w1.perm (by rw [List.append_assoc, List.append_assoc]; exact List.Perm.append_left A List.perm_append_comm)
    obtain ⟨M2, w2, sub2, s2⟩ := set_slot (w1'.part (List.sublist_append_left _ _)) s1 l1 ra
    have wB : Wd F1 H1 (B ++ M2) := by
      refine ⟨w1.sub, ?_, fun a h => ?_, fun a h => ?_⟩
      · refine List.nodup_append.mpr ⟨(List.nodup_append.mp w1'.nd).2.1, w2.nd, fun a h b h' e => ?_⟩
        subst e
        exact (List.nodup_append.mp w1'.nd).2.2 a (sub2 a h') a h rfl
      · rcases List.mem_append.mp h with h | h
        · exact w1'.fr a (List.mem_append_right _ h)
        · exact w2.fr a h
      · rcases List.mem_append.mp h with h | h
        · exact w1'.th a (List.mem_append_right _ h)
        · exact w2.th a h
    obtain ⟨M3, w3, sub3, s3⟩ := set_slot wB s2 (by rw [List.length_set]; exact l2) rb'
    refine ⟨_, F1, M3, w3, t1.drop fun a h => ?_, s3, (pin_set hri _).trans (pin_set hrj _), k1⟩
    have := sub3 a h
    simp only [List.mem_append] at this ⊢
    rcases this with h | h
    · exact .inl (.inr h)
    · have := sub2 a h
      simp only [List.mem_append] at this
      rcases this with h | h
      · exact .inl (.inl h)
      · exact .inr h⟩
/-- name op= e -/
def waug (o : Op2) (i : Nat) (b : Opd) : DSt := fun E s => onAt s i = true ∧ evO b s fun u s2 => ∃ x y, s2[i]? = some x ∧ u.at s2 = some y ∧ on x = true ∧ on y = true ∧ o x y fun z => E.nx (s2.set i z)
theorem ms_aug {i : Nat} {x : Str} {e : Expr} {op : Operator} {o : Op2} {ob : Opd} {pos' : Pos} (ho : OpM X (inplaceOp op) o) (hb : MO X e ob) (hN : X.N.Nodup) (hi : X.N[i]? = some x) (hx : Loc X.env.scope x) (hr : i ∉ ro := by decide)
    (hf : X.fn x = true ∨ X.env.scope.names.lookup x = some .local := by first | exact .inl rfl | exact .inr rfl | assumption) : MS X ro (.AugAssign (.Name x pos') op e pos) (waug o i ob) := ⟨fun {F H M σ ds E} w0 s0 q => by
  have pip : PIp X op (fun v u H Q => ∃ r, OpR X (inplaceOp op) r ∧ r v u H Q) := fun pins s σ H x y v u Q I rx ry ⟨r, h, q⟩ => h pins s σ H x y v u Q I rx ry q
  refine to_wS (ps_aug hN hi hx (pe_w e) pip hf) ?_
  obtain ⟨h1, q⟩ := q
  obtain ⟨d, e1, hon⟩ := onAt_some h1
  obtain ⟨v, _, e2, _, _⟩ := s0.at e1 hon
  refine ⟨v, e2, (hb.run w0 s0 (k := fun t s1 => _) q).imp fun u H1 ⟨t, ds1, F1, N, M1, w1, t1, r1, s1, dx, dy, ex, ey, ox, oy, k1⟩ => ?_⟩
  obtain ⟨v', A, e3, ra, sa⟩ := s1.at ex (on_ne ox)
  rw [e2] at e3
  cases e3
  obtain ⟨B, rb, sb⟩ := r1.look s1 ey (on_ne oy)
  refine ho w1 ra rb (fun a h => List.mem_append_right _ (sa a h)) sb k1 fun z H2 ⟨dz, F2, N2, w2, t2, r2, k2⟩ => ?_
  have b := frame (A := []) (R := N ++ M1) w1 t2 w2
  have hs : (N2 ++ M1).Sublist (N2 ++ (N ++ M1)) := List.Sublist.append_left (List.sublist_append_right _ _) _
  have s2 := s1.mono t2.up fun a q => b.same a (List.mem_append_right _ q)
  obtain ⟨M3, w3, sub3, s3⟩ := set_slot (b.wd.part hs) s2 (List.getElem?_eq_some_iff.mp ex).1 r2
  exact ⟨_, F2, M3, w3, (t1.trans w0 w1 b.tr).drop fun a h => hs.subset (sub3 a h), s3, pin_set hr _, k2⟩⟩
end
end M

namespace M
open PySem PySem.Spec PyProof.Rows L2

/-! ### what is walked: the items, while P lies -/
structure Walks (X : Cx) (J : It) (P : Hp → Hp → Prop) (xs : List D) : Prop where
  go : ∀ {F H : Hp} {i : Nat}, Sub F H → P F H → i < xs.length → J.go i H
  stop : ∀ {F H : Hp}, Sub F H → P F H → J.stop xs.length H
  item : ∀ {F H H' : Hp} {M : List Addr} {i : Nat} {x : V} {d : D}, Wd F H M → P F H → J.yld i H x H' → xs[i]? = some d → ∃ F', Wd F' H' M ∧ Tr F H [] F' H' [] ∧ (∀ a ∈ M, H' a = H a) ∧ Rp X.K F' H' d x []
/-- P lies in F and the objects at N -/
def Lies (N : List Addr) (P : Hp → Hp → Prop) : Prop := ∀ {F1 H1 F2 H2 : Hp}, (∀ a u, F1 a = some u → F2 a = some u) → (∀ a ∈ N, H2 a = H1 a) → P F1 H1 → P F2 H2
def wforL (g : DG) (b : DSt) : List D → DEnds → DS → Prop
  | [], E, s => E.nx s
  | x :: xs, E, s => g x s fun s1 => b ⟨wforL g b xs E, E.rt, E.nx, wforL g b xs E⟩ s1
section
variable {X : Cx} {ro : List Nat} {pos : Pos}
theorem RpL.at0 {K : PySem.W.Frag} {F H : Hp} {ds : List D} {vs : List V} {j : Nat} {d : D} {v : V} (h : RpL K F H ds vs []) (e : ds[j]? = some d) (e' : vs[j]? = some v) : Rp K F H d v [] := by
  obtain ⟨v', N, e1, r, s⟩ := h.get e
  rw [e'] at e1
  cases e1
  have : N = [] := List.eq_nil_iff_forall_not_mem.mpr fun a q => nomatch (s a q)
  subst this
  exact r
/-- a list, a tuple -/
theorem walks_list {a : Addr} {ds : List D} {N : List Addr} {d : D} (e : lstOf d = some ds) (fz0 : fzL ds = ds) : Walks X (Itl X.K a) (fun F H => Rp X.K F H d (.ref a) N) ds where
  go := fun {F H i} w p hi => by
    obtain ⟨b, vs, _, eb, q, l, _⟩ := p.seq w e
    cases eb
    have hl := l.len
    exact ⟨vs, vs[i], q, List.getElem?_eq_getElem (by omega)⟩
  stop := fun {F H} w p => by
    obtain ⟨b, vs, _, eb, q, l, _⟩ := p.seq w e
    cases eb
    exact ⟨vs, q, Nat.le_of_eq l.len.symm⟩
  item := fun {F H H' M i x dd} w p y ed => by
    obtain ⟨b, vs, _, eb, q, l, _⟩ := p.seq w.sub e
    cases eb
    obtain ⟨rfl, hx⟩ := y
    exact ⟨F, w, Tr.refl _ _ _, fun _ _ => rfl, (l.ice0 fz0).at0 ed (hx vs q)⟩
theorem walks_tup {a : Addr} {ds : List D} {N : List Addr} (fz0 : fzL ds = ds) : Walks X (Itt X.K a) (fun F H => Rp X.K F H (.tup ds) (.ref a) N) ds where
  go := fun {F H i} w p hi => by
    obtain ⟨b, vs, eb, q, l⟩ := p.tpl w
    cases eb
    have hl := l.len
    exact ⟨vs, vs[i], q, List.getElem?_eq_getElem (by omega)⟩
  stop := fun {F H} w p => by
    obtain ⟨b, vs, eb, q, l⟩ := p.tpl w
    cases eb
    exact ⟨vs, q, Nat.le_of_eq l.len.symm⟩
  item := fun {F H H' M i x dd} w p y ed => by
    obtain ⟨b, vs, eb, q, l⟩ := p.tpl w.sub
    cases eb
    obtain ⟨rfl, hx⟩ := y
    exact ⟨F, w, Tr.refl _ _ _, fun _ _ => rfl, (l.ice0 fz0).at0 ed (hx vs q)⟩
theorem walks_str {z : Str} : Walks X (Its z) (fun _ _ => True) (z.cps.toList.map fun c => .str ⟨#[c]⟩) where
  go := fun {F H i} w p hi => by
    rw [List.length_map, Array.length_toList] at hi
    exact hi
  stop := fun {F H} w p => by
    show z.cps.size ≤ _
    rw [List.length_map, Array.length_toList]
    exact Nat.le_refl _
  item := fun {F H H' M i x dd} w p y ed => by
    obtain ⟨rfl, c, hc, rfl⟩ := y
    refine ⟨F, w, Tr.refl _ _ _, fun _ _ => rfl, ?_⟩
    rw [List.getElem?_map, Array.getElem?_toList, hc] at ed
    cases ed
    exact .str _
def rangeD (lo : Int) (n : Nat) : List D := (List.range n).map fun k => .int (lo + (k : Nat))
theorem walks_range {lo : Int} {n : Nat} : Walks X (Itr lo n) (fun _ _ => True) (rangeD lo n) where
  go := fun {F H i} w p hi => by
    unfold rangeD at hi
    rw [List.length_map, List.length_range] at hi
    exact hi
  stop := fun {F H} w p => by
    show n ≤ _
    unfold rangeD
    rw [List.length_map, List.length_range]
    exact Nat.le_refl _
  item := fun {F H H' M i x dd} w p y ed => by
    obtain ⟨rfl, rfl⟩ := y
    refine ⟨F, w, Tr.refl _ _ _, fun _ _ => rfl, ?_⟩
    unfold rangeD at ed
    rw [List.getElem?_map] at ed
    cases e : (List.range n)[i]? with
    | none => rw [e] at ed; cases ed
    | some k =>
      rw [e] at ed
      cases ed
      obtain ⟨hl, hk⟩ := List.getElem?_eq_some_iff.mp e
      rw [List.getElem_range] at hk
      subst hk
      exact .int _
theorem made_pair {F H : Hp} {M : List Addr} {T : Addr} {ds : List D} {vs : List V} (w : Wd F H M) (hT : H T = none) (l : RpL X.K F H ds vs []) : ∃ F', Wd F' (upd H T (.tup vs)) M ∧ Tr F H [] F' (upd H T (.tup vs)) [] ∧ (∀ a ∈ M, upd H T (.tup vs) a = H a) ∧ Rp X.K F' (upd H T (.tup vs)) (.tup ds) (.ref T) [] := by
  obtain ⟨w1, t1, e1, u1⟩ := new_ice (o := .tup vs) w hT
  obtain ⟨w2, t2, e2, u2⟩ := new_ice (o := .tup vs) (w.part (List.nil_sublist M)) hT
  exact ⟨_, w1, t2, e1, .tup (SqT.of upd_same) (l.mono u1 fun a h => nomatch h)⟩
def enumD (ds : List D) : List D := (List.range ds.length).map fun k => .tup [.int (k : Nat), ds.getD k .off]
theorem enumD_at {ds : List D} {i : Nat} {x : D} (h : (enumD ds)[i]? = some x) : ∃ d, ds[i]? = some d ∧ x = .tup [.int (i : Nat), d] := by
  unfold enumD at h
  rw [List.getElem?_map] at h
  cases e : (List.range ds.length)[i]? with
  | none => rw [e] at h; cases h
  | some k =>
    rw [e] at h
    cases h
    obtain ⟨hl, hk⟩ := List.getElem?_eq_some_iff.mp e
    rw [List.getElem_range] at hk
    subst hk
    rw [List.length_range] at hl
    exact ⟨ds[i], List.getElem?_eq_getElem hl, by show D.tup [.int (i : Nat), ds.getD i .off] = _; rw [List.getD_eq_getElem?_getD, List.getElem?_eq_getElem hl]; rfl⟩
theorem walks_enum {a : Addr} {ds : List D} {N : List Addr} {d : D} (e : lstOf d = some ds) (fz0 : fzL ds = ds) : Walks X (Ite X.K a) (fun F H => Rp X.K F H d (.ref a) N) (enumD ds) where
  go := fun {F H i} w p hi => by
    obtain ⟨b, vs, _, eb, q, l, _⟩ := p.seq w e
    cases eb
    have hl := l.len
    unfold enumD at hi
    rw [List.length_map, List.length_range] at hi
    exact ⟨vs, vs[i], q, List.getElem?_eq_getElem (by omega)⟩
  stop := fun {F H} w p => by
    obtain ⟨b, vs, _, eb, q, l, _⟩ := p.seq w e
    cases eb
    refine ⟨vs, q, Nat.le_of_eq ?_⟩
    unfold enumD
    rw [List.length_map, List.length_range]
    exact l.len.symm
  item := fun {F H H' M i x dd} w p y ed => by
    obtain ⟨b, vs, _, eb, q, l, _⟩ := p.seq w.sub e
    cases eb
    obtain ⟨T, z, rfl, hT, rfl, hx⟩ := y
    obtain ⟨d', e1, rfl⟩ := enumD_at ed
    exact made_pair w hT (.cons (M := []) (N := []) (.int _) (.cons (M := []) (N := []) ((l.ice0 fz0).at0 e1 (hx vs q)) .nil))
def zipD (ds es : List D) : List D := List.zipWith (fun a b => D.tup [a, b]) ds es
theorem zipD_at : ∀ {ds es : List D} {i : Nat} {x : D}, (zipD ds es)[i]? = some x → ∃ a b, ds[i]? = some a ∧ es[i]? = some b ∧ x = .tup [a, b]
  | [], es, i, x, h => by simp [zipD] at h
  | d :: ds, [], i, x, h => by simp [zipD] at h
  | d :: ds, e :: es, 0, x, h => by
    simp [zipD] at h
    exact ⟨d, e, rfl, rfl, h.symm⟩
  | d :: ds, e :: es, i + 1, x, h => zipD_at (ds := ds) (es := es) (i := i) (x := x) (by simpa [zipD] using h)
theorem walks_zip {a b : Addr} {ds es : List D} {N N' : List Addr} {d d' : D} (e : lstOf d = some ds) (fz0 : fzL ds = ds) (e' : lstOf d' = some es) (fz1 : fzL es = es) :
    Walks X (Itz X.K a b) (fun F H => Rp X.K F H d (.ref a) N ∧ Rp X.K F H d' (.ref b) N') (zipD ds es) where
  go := fun {F H i} w p hi => by
    obtain ⟨c, vs, _, eb, q, l, _⟩ := p.1.seq w e
    cases eb
    obtain ⟨c, us, _, eb, q', l', _⟩ := p.2.seq w e'
    cases eb
    have hl := l.len
    have hl' := l'.len
    unfold zipD at hi
    rw [List.length_zipWith] at hi
    exact ⟨vs, us, vs[i], us[i], q, q', List.getElem?_eq_getElem (by omega), List.getElem?_eq_getElem (by omega)⟩
  stop := fun {F H} w p => by
    obtain ⟨c, vs, _, eb, q, l, _⟩ := p.1.seq w e
    cases eb
    obtain ⟨c, us, _, eb, q', l', _⟩ := p.2.seq w e'
    cases eb
    have hl := l.len
    have hl' := l'.len
    refine ⟨vs, us, q, q', ?_⟩
    unfold zipD
    rw [List.length_zipWith]
    omega
  item := fun {F H H' M i x dd} w p y ed => by
    obtain ⟨c, vs, _, eb, q, l, _⟩ := p.1.seq w.sub e
    cases eb
    obtain ⟨c, us, _, eb, q', l', _⟩ := p.2.seq w.sub e'
    cases eb
    obtain ⟨T, z, z', rfl, hT, rfl, hx, hx'⟩ := y
    obtain ⟨a', b', e1, e2, rfl⟩ := zipD_at ed
    exact made_pair w hT (.cons (M := []) (N := []) ((l.ice0 fz0).at0 e1 (hx vs q)) (.cons (M := []) (N := []) ((l'.ice0 fz1).at0 e2 (hx' us q')) .nil))
theorem walks_zipT {a b : Addr} {ds es : List D} {N N' : List Addr} (fz0 : fzL ds = ds) (fz1 : fzL es = es) :
    Walks X (RZ.ItzT X.K a b) (fun F H => Rp X.K F H (.tup ds) (.ref a) N ∧ Rp X.K F H (.tup es) (.ref b) N') (zipD ds es) where
  go := fun {F H i} w p hi => by
    obtain ⟨c, vs, eb, q, l⟩ := p.1.tpl w
    cases eb
    obtain ⟨c, us, eb, q', l'⟩ := p.2.tpl w
    cases eb
    have hl := l.len
    have hl' := l'.len
    unfold zipD at hi
    rw [List.length_zipWith] at hi
    exact ⟨vs, us, vs[i], us[i], q, q', List.getElem?_eq_getElem (by omega), List.getElem?_eq_getElem (by omega)⟩
  stop := fun {F H} w p => by
    obtain ⟨c, vs, eb, q, l⟩ := p.1.tpl w
    cases eb
    obtain ⟨c, us, eb, q', l'⟩ := p.2.tpl w
    cases eb
    have hl := l.len
    have hl' := l'.len
    refine ⟨vs, us, q, q', ?_⟩
    unfold zipD
    rw [List.length_zipWith]
    omega
  item := fun {F H H' M i x dd} w p y ed => by
    obtain ⟨c, vs, eb, q, l⟩ := p.1.tpl w.sub
    cases eb
    obtain ⟨c, us, eb, q', l'⟩ := p.2.tpl w.sub
    cases eb
    obtain ⟨T, z, z', rfl, hT, rfl, hx, hx'⟩ := y
    obtain ⟨a', b', e1, e2, rfl⟩ := zipD_at ed
    exact made_pair w hT (.cons (M := []) (N := []) ((l.ice0 fz0).at0 e1 (hx vs q)) (.cons (M := []) (N := []) ((l'.ice0 fz1).at0 e2 (hx' us q')) .nil))

/-! ### for -/
theorem for_core {tg : Expr} {body : List Stmt} {g : DG} {b : DSt} {J : It} {P : Hp → Hp → Prop} {xs : List D} {F H : Hp} {N M : List Addr} {σ : L2.St} {ds : DS} {E : DEnds} {Dm : Ends} (hg : MG X ro tg g) (hb : MSs X ro body b)
    (w0 : Wd F H (N ++ M)) (s0 : SR X.K F H ds σ M) (p0 : P F H) (W : Walks X J P xs) (L : Lies N P) (q : wforL g b xs E ds)
    (ends : ∀ {F' H' : Hp} {M' : List Addr} {σ' : L2.St} {ds' : DS}, Wd F' H' (N ++ M') → Tr F H (N ++ M) F' H' (N ++ M') → P F' H' → SR X.K F' H' ds' σ' M' → Pin ro σ σ' → E.nx ds' → Dm.nx σ' H')
    (rets : ∀ {F' H' : Hp} {A M' : List Addr} {σ' : L2.St} {ds' : DS} {d : D} {v : V}, Wd F' H' (N ++ (A ++ M')) → Tr F H (N ++ M) F' H' (N ++ (A ++ M')) → P F' H' → Rp X.K F' H' d v A → SR X.K F' H' ds' σ' M' → Pin ro σ σ' → E.rt d ds' → Dm.rt v H') :
    ∃ W : Nat → Nat → L2.St → Hp → Prop, (∃ m, W 0 m σ H) ∧ ∀ i m σ H, W i m σ H →
      (J.stop i H ∧ Dm.nx σ H) ∨ (J.go i H ∧ ∃ Nx : L2.St → Hp → Prop, (∀ σ' H', Nx σ' H' → ∃ m', m' < m ∧ W (i + 1) m' σ' H') ∧ ∀ x H', J.yld i H x H' → wG X tg x σ H' fun σ2 H2 => wSs X body { Dm with nx := Nx, ct := Nx, bk := Dm.nx } σ2 H2) := by
  let I : Nat → L2.St → Hp → Prop := fun i σ' H' => ∃ ds' F' M', Wd F' H' (N ++ M') ∧ Tr F H (N ++ M) F' H' (N ++ M') ∧ P F' H' ∧ SR X.K F' H' ds' σ' M' ∧ Pin ro σ σ' ∧ wforL g b (xs.drop i) E ds'
  refine ⟨fun i m σ' H' => m = xs.length - i ∧ i ≤ xs.length ∧ I i σ' H', ⟨xs.length, by simp, Nat.zero_le _, ds, F, M, w0, Tr.refl F H _, p0, s0, Pin.refl ro σ, q⟩, ?_⟩
  rintro i m σ1 H1 ⟨rfl, hi, ds1, F1, M1, w1, t1, p1, s1, pin1, q1⟩
  by_cases hlt : i < xs.length
  · refine .inr ⟨W.go w1.sub p1 hlt, I (i + 1), fun σ' H' h => ⟨xs.length - (i + 1), by omega, rfl, hlt, h⟩, fun x H2 y => ?_⟩
    have ex : xs[i]? = some xs[i] := List.getElem?_eq_getElem hlt
    obtain ⟨F2, w2, t2, e2, r2⟩ := W.item w1 p1 y ex
    rw [List.drop_eq_getElem_cons hlt] at q1
    have t12 : Tr F1 H1 (N ++ M1) F2 H2 (N ++ M1) := (frame (A := []) (B := []) (R := N ++ M1) w1 t2 (w2.part (List.nil_sublist _))).tr
    have t02 := t1.trans w0 w1 t12
    have p2 : P F2 H2 := L t2.up (fun a h => e2 a (List.mem_append_left _ h)) p1
    have s2 := s1.mono t2.up fun a h => e2 a (List.mem_append_right _ h)
    have wM2 : Wd F2 H2 ([] ++ M1) := w2.part (List.sublist_append_right _ _)
    refine wG.imp (hg.run wM2 r2 s2 q1) fun σ3 H3 ⟨ds3, F3, M3, w3, t3, s3, pin3, q3⟩ => ?_
    -- N stays beside
    have w2' : Wd F2 H2 (M1 ++ N) := w2.perm List.perm_append_comm
    have b3 := frame w2' t3 w3
    have w3' : Wd F3 H3 (N ++ M3) := b3.wd.perm List.perm_append_comm
    have t23 : Tr F2 H2 (N ++ M1) F3 H3 (N ++ M3) := (b3.tr.wide fun a h => List.perm_append_comm.mem_iff.mp h).drop fun a h => List.perm_append_comm.mem_iff.mp h
    have t03 := t02.trans w0 w2 t23
    have p3 : P F3 H3 := L t3.up b3.same p2
    refine wSs.imp (hb.run w3 s3 q3) ?_ ?_ ?_ ?_
    · rintro σ4 H4 ⟨ds4, F4, M4, w4, t4, s4, pin4, q4⟩
      have b4 := frame (w3'.perm List.perm_append_comm) t4 w4
      refine ⟨ds4, F4, M4, b4.wd.perm List.perm_append_comm, t03.trans w0 w3' ((b4.tr.wide fun a h => List.perm_append_comm.mem_iff.mp h).drop fun a h => List.perm_append_comm.mem_iff.mp h), L t4.up b4.same p3, s4, (pin1.trans pin3).trans pin4, q4⟩
    · rintro v H4 ⟨σ4, d, ds4, F4, A, M4, w4, t4, r4, s4, pin4, q4⟩
      have b4 := frame (w3'.perm List.perm_append_comm) t4 w4
      exact rets (b4.wd.perm List.perm_append_comm) (t03.trans w0 w3' ((b4.tr.wide fun a h => List.perm_append_comm.mem_iff.mp h).drop fun a h => List.perm_append_comm.mem_iff.mp h)) (L t4.up b4.same p3) r4 s4 ((pin1.trans pin3).trans pin4) q4
    · rintro σ4 H4 ⟨ds4, F4, M4, w4, t4, s4, pin4, q4⟩
      have b4 := frame (w3'.perm List.perm_append_comm) t4 w4
      exact ends (b4.wd.perm List.perm_append_comm) (t03.trans w0 w3' ((b4.tr.wide fun a h => List.perm_append_comm.mem_iff.mp h).drop fun a h => List.perm_append_comm.mem_iff.mp h)) (L t4.up b4.same p3) s4 ((pin1.trans pin3).trans pin4) q4
    · rintro σ4 H4 ⟨ds4, F4, M4, w4, t4, s4, pin4, q4⟩
      have b4 := frame (w3'.perm List.perm_append_comm) t4 w4
      refine ⟨ds4, F4, M4, b4.wd.perm List.perm_append_comm, t03.trans w0 w3' ((b4.tr.wide fun a h => List.perm_append_comm.mem_iff.mp h).drop fun a h => List.perm_append_comm.mem_iff.mp h), L t4.up b4.same p3, s4, (pin1.trans pin3).trans pin4, q4⟩
  · have ei : i = xs.length := by omega
    subst ei
    rw [List.drop_length] at q1
    exact .inl ⟨W.stop w1.sub p1, ends w1 t1 p1 s1 pin1 q1⟩

/-- what is walked: a value's items -/
def iseq (a : DE) : DS → (List D → DS → Prop) → Prop := fun s k => a s fun d s1 => match d with
  | .tup xs => fzL xs = xs ∧ k xs s1
  | .str z => k (z.cps.toList.map fun c => .str ⟨#[c]⟩) s1
  | d => ∃ xs, lstOf d = some xs ∧ fzL xs = xs ∧ k xs s1
def wfor (it : DS → (List D → DS → Prop) → Prop) (g : DG) (b : DSt) : DSt := fun E s => it s fun xs s1 => wforL g b xs E s1
/-- an iterable of the machine for it: N beside, P -/
def ResI (X : Cx) (σ : L2.St) (F H : Hp) (M : List Addr) (k : List D → DS → Prop) : It → Hp → Prop := fun J H' => ∃ xs ds' F' N M' P, Wd F' H' (N ++ M') ∧ Tr F H M F' H' (N ++ M') ∧ SR X.K F' H' ds' σ M' ∧ P F' H' ∧ Walks X J P xs ∧ Lies N P ∧ k xs ds'
structure MI (X : Cx) (tg iter : Expr) (it : DS → (List D → DS → Prop) → Prop) : Prop where
  run : ∃ wi, PI X tg iter wi ∧ ∀ {F H : Hp} {M : List Addr} {σ : L2.St} {ds : DS} {k : List D → DS → Prop}, Wd F H M → SR X.K F H ds σ M → it ds k → wi σ H (ResI X σ F H M k)
theorem pi_seq3 {tg l : Expr} {tl : TE} (hl : PE X l tl) : PI X tg l (fun σ H R => tl σ H fun x H1 => (∃ a, x = .ref a ∧ ((∃ xs, SqL X.K H1 a xs) ∧ R (Itl X.K a) H1 ∨ (∃ xs, SqT X.K H1 a xs) ∧ R (Itt X.K a) H1)) ∨ ∃ z, x = .str z ∧ R (Its z) H1) := ⟨fun pins s σ H R I h => by
  refine thn (hl.run pins s σ H _ I h) fun v s1 hv => ?_
  obtain ⟨x, H1, I1, r1, q1⟩ := hv
  rcases q1 with ⟨a, rfl, ⟨⟨xs, hq⟩, q⟩ | ⟨⟨xs, hq⟩, q⟩⟩ | ⟨z, rfl, q⟩
  · cases r1
    obtain ⟨its, rv, p, _⟩ := I1.list hq
    exact wpAny_pyIter_list p.isList (pi_one (tk := s1.toks) I1 _ (turn_list a _) ⟨_, Heap.get?_push_size _ rfl, rfl, rfl⟩ q)
  · cases r1
    obtain ⟨its, rv, p, _⟩ := I1.tuple hq
    exact wpAny_pyIter_tuple p (pi_one (tk := s1.toks) I1 _ (turn_tuple a _) ⟨_, Heap.get?_push_size _ rfl, rfl, rfl⟩ q)
  · obtain ⟨t, rfl⟩ := r1
    cases ha : z.cps.all (· < 128)
    · exact wpAny_pyIter_wide ha (pi_one (tk := s1.toks) I1 _ (turn_str _ z t _ (.inr rfl)) ⟨_, Heap.get?_push_size _ rfl, rfl, rfl⟩ q)
    · exact wpAny_pyIter_ascii ha (pi_one (tk := s1.toks) I1 _ (turn_str _ z t _ (.inl rfl)) ⟨_, Heap.get?_push_size _ rfl, rfl, rfl⟩ q)⟩
theorem lies_rp {K : PySem.W.Frag} {d : D} {v : V} {N : List Addr} : Lies N (fun F H => Rp K F H d v N) := fun up k p => p.mono up k
theorem mi_seq {tg e : Expr} {a : DE} (h : ME X e a) : MI X tg e (iseq a) := ⟨_, pi_seq3 (pe_w e), fun {F H M σ ds k} w0 s0 q => by
  refine (h.run w0 s0 (Q := fun x s1 => _) q).imp fun v H1 ⟨d, ds1, F1, N, M1, w1, t1, r1, s1, k1⟩ => ?_
  cases d with
  | tup xs =>
    obtain ⟨c, vs, rfl, q1, l⟩ := r1.tpl w1.sub
    exact .inl ⟨c, rfl, .inr ⟨⟨vs, q1⟩, xs, ds1, F1, N, M1, _, w1, t1, s1, r1, walks_tup k1.1, lies_rp, k1.2⟩⟩
  | str z =>
    obtain ⟨rfl, rfl⟩ := r1.of_str
    exact .inr ⟨z, rfl, _, ds1, F1, [], M1, _, w1, t1, s1, trivial, walks_str, fun _ _ h => h, k1⟩
  | lst o xs =>
    obtain ⟨xs, e0, e1, k2⟩ := k1
    obtain ⟨c, vs, _, rfl, q1, l, _⟩ := r1.seq w1.sub e0
    exact .inl ⟨c, rfl, .inl ⟨⟨vs, q1⟩, xs, ds1, F1, N, M1, _, w1, t1, s1, r1, walks_list e0 e1, lies_rp, k2⟩⟩
  | frl xs =>
    obtain ⟨xs, e0, e1, k2⟩ := k1
    obtain ⟨c, vs, _, rfl, q1, l, _⟩ := r1.seq w1.sub e0
    exact .inl ⟨c, rfl, .inl ⟨⟨vs, q1⟩, xs, ds1, F1, N, M1, _, w1, t1, s1, r1, walks_list e0 e1, lies_rp, k2⟩⟩
  | _ => obtain ⟨_, e0, _⟩ := k1; cases e0⟩
def irange1 (a : Opd) : DS → (List D → DS → Prop) → Prop := fun s k => evO a s fun t s1 => ∃ j, t.at s1 = some (.int j) ∧ (-(2 ^ 62) ≤ j ∧ j < 2 ^ 62) ∧ k (rangeD 0 j.toNat) s1
def irange2 (a b : Opd) : DS → (List D → DS → Prop) → Prop := fun s k => evO a s fun t s1 => evO b s1 fun u s2 => ∃ i j, t.at s2 = some (.int i) ∧ u.at s2 = some (.int j) ∧ (-(2 ^ 62) ≤ i ∧ i < 2 ^ 62 ∧ -(2 ^ 62) ≤ j ∧ j < 2 ^ 62) ∧ k (rangeD i (j - i).toNat) s2
def of1 (K : Tok → DS → Prop) : List Tok → DS → Prop := fun ts s => match ts with
  | [t] => K t s
  | _ => False
def of2 (K : Tok → Tok → DS → Prop) : List Tok → DS → Prop := fun ts s => match ts with
  | [t, u] => K t u s
  | _ => False
theorem mi_range1 {tg e : Expr} {p : Pos} {o : Opd} (hm : X.mg "range" = none) (ha : MOs X [e] [o]) (hg : Gl X "range" := by rfl) (hs : starEach [e] X.env = [(false, eval e X.env)] := by rfl) : MI X tg (.Call (.Name "range" p) [e] [] pos) (irange1 o) := ⟨_, pi_range1 hg hm (pa_w [e]) hs, fun {F H M σ ds k} w0 s0 q => by
  refine (ha.run w0 s0 (k := of1 _) q).imp fun vs H1 ⟨ts, ds1, F1, N, M1, w1, t1, r1, s1, k1⟩ => ?_
  match ts, k1 with
  | [t], ⟨j, e1, ⟨b1, b2⟩, k1⟩ =>
    obtain ⟨A, l, _⟩ := r1.look s1 (xs := [.int j]) (by show List.mapM _ [t] = _; rw [List.mapM_cons, e1]; rfl) rfl
    obtain ⟨v, rfl, r⟩ := l.inv1
    obtain ⟨rfl, _⟩ := r.of_int
    refine ⟨j, rfl, b1, b2, _, ds1, F1, [], M1, _, w1.part (List.sublist_append_right _ _), t1.drop fun a h => List.mem_append_right _ h, s1, trivial, walks_range, fun _ _ h => h, k1⟩⟩
theorem mi_range2 {tg e e' : Expr} {p : Pos} {o o' : Opd} (hm : X.mg "range" = none) (ha : MOs X [e, e'] [o, o']) (hg : Gl X "range" := by rfl) (hs : starEach [e, e'] X.env = [(false, eval e X.env), (false, eval e' X.env)] := by rfl) (hs2 : starEach [e'] X.env = [(false, eval e' X.env)] := by rfl) :
    MI X tg (.Call (.Name "range" p) [e, e'] [] pos) (irange2 o o') := ⟨_, pi_range2 hg hm (pa_w [e, e']) hs hs2, fun {F H M σ ds k} w0 s0 q => by
  refine (ha.run w0 s0 (k := of2 _) q).imp fun vs H1 ⟨ts, ds1, F1, N, M1, w1, t1, r1, s1, k1⟩ => ?_
  match ts, k1 with
  | [t, u], ⟨i, j, e1, e2, bb, k1⟩ =>
    obtain ⟨A, l, _⟩ := r1.look s1 (xs := [.int i, .int j]) (by show List.mapM _ [t, u] = _; rw [List.mapM_cons, e1, List.mapM_cons, e2]; rfl) rfl
    obtain ⟨v, w, _, _, rfl, ra, rb, _⟩ := l.inv2
    obtain ⟨rfl, _⟩ := ra.of_int
    obtain ⟨rfl, _⟩ := rb.of_int
    refine ⟨i, j, rfl, bb, _, ds1, F1, [], M1, _, w1.part (List.sublist_append_right _ _), t1.drop fun a h => List.mem_append_right _ h, s1, trivial, walks_range, fun _ _ h => h, k1⟩⟩
/-- enumerate(x), zip(x, y): values -/
def ienum (a : DE) : DS → (List D → DS → Prop) → Prop := fun s k => a s fun d s1 => ∃ xs, lstOf d = some xs ∧ fzL xs = xs ∧ k (enumD xs) s1
theorem mi_enum {elts : List Expr} {kk : Nat} {tpos p : Pos} {e : Expr} {a : DE} (hm : X.mg "enumerate" = none) (h : MEs X [e] (wcons a wnil)) (hg : Gl X "enumerate" := by rfl) (hs : starEach [e] X.env = [(false, eval e X.env)] := by rfl) : MI X (.Tuple elts kk tpos) (.Call (.Name "enumerate" p) [e] [] pos) (ienum a) := ⟨_, pi_enum hg hm (pa_w [e]) hs, fun {F H M σ ds k} w0 s0 q => by
  refine (h.run w0 s0 (Q := fun xs s1 => match xs with | [d] => ∃ ys, lstOf d = some ys ∧ fzL ys = ys ∧ k (enumD ys) s1 | _ => False) q).imp fun vs H1 ⟨xs, ds1, F1, N, M1, hv, w1, t1, r1, s1, k1⟩ => ?_
  match xs, k1 with
  | [d], ⟨ys, e0, e1, k1⟩ =>
    obtain ⟨v, rfl, r⟩ := r1.inv1
    obtain ⟨c, us, _, rfl, q1, l, _⟩ := r.seq w1.sub e0
    exact ⟨c, us, rfl, q1, _, ds1, F1, N, M1, _, w1, t1, s1, r, walks_enum e0 e1, lies_rp, k1⟩⟩
def izip (a b : DE) : DS → (List D → DS → Prop) → Prop := fun s k => a s fun d s1 => b s1 fun d' s2 => match d, d' with
  | .tup xs, .tup ys => fzL xs = xs ∧ fzL ys = ys ∧ k (zipD xs ys) s2
  | d, d' => ∃ xs ys, lstOf d = some xs ∧ lstOf d' = some ys ∧ fzL xs = xs ∧ fzL ys = ys ∧ k (zipD xs ys) s2
theorem mi_zip {elts : List Expr} {kk : Nat} {tpos p : Pos} {e e' : Expr} {a a' : DE} (hm : X.mg "zip" = none) (h : MEs X [e, e'] (wcons a (wcons a' wnil))) (hg : Gl X "zip" := by rfl) (hs : starEach [e, e'] X.env = (false, eval e X.env) :: starEach [e'] X.env := by rfl) (hpl : (backTo pos (starEach [e'] X.env)).any (·.1) = false := by rfl) :
    MI X (.Tuple elts kk tpos) (.Call (.Name "zip" p) [e, e'] [] pos) (izip a a') := ⟨_, RZ.pi_zipA hg hm (pa_w [e, e']) hs hpl, fun {F H M σ ds k} w0 s0 q => by
  refine (h.run w0 s0 (Q := fun xs s2 => match xs with | [d, d'] => (match d, d' with
    | .tup xs, .tup ys => fzL xs = xs ∧ fzL ys = ys ∧ k (zipD xs ys) s2
    | d, d' => ∃ xs ys, lstOf d = some xs ∧ lstOf d' = some ys ∧ fzL xs = xs ∧ fzL ys = ys ∧ k (zipD xs ys) s2) | _ => False) q).imp fun vs H1 ⟨xs, ds1, F1, N, M1, hv, w1, t1, r1, s1, k1⟩ => ?_
  match xs, k1 with
  | [d, d'], k1 =>
    cases r1 with
    | @cons _ v1 _ _ A B ra rb =>
    obtain ⟨v2, rfl, rb'⟩ := rb.inv1
    have L : ∀ {d d' : D}, Lies (A ++ B) (fun F H => Rp X.K F H d v1 A ∧ Rp X.K F H d' v2 B) := fun {d d'} {_ _ _ _} up k p => ⟨p.1.mono up fun a h => k a (List.mem_append_left _ h), p.2.mono up fun a h => k a (List.mem_append_right _ h)⟩
    have tup : ∀ {xs ys : List D}, d = .tup xs → d' = .tup ys → fzL xs = xs → fzL ys = ys → k (zipD xs ys) ds1 → RZ.iZipA X.K (fun _ H Q => Q [v1, v2] H) σ H1 (ResI X σ F H M k) := fun {xs ys} e1 e2 f1 f2 kk => by
      subst e1 e2
      obtain ⟨c, us, rfl, q1, l⟩ := ra.tpl w1.sub
      obtain ⟨c', us', rfl, q2, l'⟩ := rb'.tpl w1.sub
      exact ⟨c, c', us, us', rfl, .inr ⟨q1, q2, _, ds1, F1, A ++ B, M1, _, w1, t1, s1, ⟨ra, rb'⟩, walks_zipT f1 f2, L, kk⟩⟩
    have lst : (∃ xs ys, lstOf d = some xs ∧ lstOf d' = some ys ∧ fzL xs = xs ∧ fzL ys = ys ∧ k (zipD xs ys) ds1) → RZ.iZipA X.K (fun _ H Q => Q [v1, v2] H) σ H1 (ResI X σ F H M k) := fun ⟨xs, ys, e1, e2, f1, f2, kk⟩ => by
      obtain ⟨c, us, _, rfl, q1, l, _⟩ := ra.seq w1.sub e1
      obtain ⟨c', us', _, rfl, q2, l', _⟩ := rb'.seq w1.sub e2
      exact ⟨c, c', us, us', rfl, .inl ⟨q1, q2, _, ds1, F1, A ++ B, M1, _, w1, t1, s1, ⟨ra, rb'⟩, walks_zip e1 f1 e2 f2, L, kk⟩⟩
    cases d <;> cases d' <;> first
      | exact tup rfl rfl k1.1 k1.2.1 k1.2.2
      | exact lst k1⟩
theorem pi_mono {tg iter : Expr} {wi : TI} (h : PI X tg iter wi) : PI X tg iter (fun σ H R => ∃ R0 : It → Hp → Prop, wi σ H R0 ∧ ∀ J H', R0 J H' → R J H') := ⟨fun pins s σ H R I ⟨R0, q, k⟩ => thn (h.run pins s σ H R0 I q) fun v s1 hv => thn hv fun itv s2 h2 => by
  obtain ⟨it, fp, tn, J, H', e, I', T, t0, fo, r⟩ := h2
  exact ⟨it, fp, tn, J, H', e, I', T, t0, fo, k J H' r⟩⟩
theorem pi_U {tg iter : Expr} {wi wi' : TI} (h : PI X tg iter wi) (k : ∀ σ H R, wi' σ H R → wi σ H R) : PI X tg iter wi' := ⟨fun pins s σ H R I q => h.run pins s σ H R I (k σ H R q)⟩
theorem ms_for {tg iter : Expr} {body : List Stmt} {it : DS → (List D → DS → Prop) → Prop} {g : DG} {b : DSt} (hi : MI X tg iter it) (hg : MG X ro tg g) (hb : MSs X ro body b) (hp : PassesOwn (model X.prog X.w) X.A X.env X.xe) (hc : X.calm = true)
    (hs : ∀ x, foldedSetIterable iter X.env x = pure x := by intro _; rfl) : MS X ro (.For tg iter body [] pos) (wfor it g b) := ⟨fun {F H M σ ds E} w0 s0 q => by
  obtain ⟨wi, hpi, hrun⟩ := hi.run
  have h := hrun w0 s0 q
  have step : ∀ J H1, ResI X σ F H M (fun xs s1 => wforL g b xs E s1) J H1 → ∃ W : Nat → Nat → L2.St → Hp → Prop, (∃ m, W 0 m σ H1) ∧ ∀ i m σ' H', W i m σ' H' →
      (J.stop i H' ∧ (mE X ro σ F H M E).nx σ' H') ∨ (J.go i H' ∧ ∃ Nx : L2.St → Hp → Prop, (∀ σ2 H2, Nx σ2 H2 → ∃ m', m' < m ∧ W (i + 1) m' σ2 H2) ∧ ∀ x H2, J.yld i H' x H2 → wG X tg x σ' H2 fun σ3 H3 => wSs X body { mE X ro σ F H M E with nx := Nx, ct := Nx, bk := (mE X ro σ F H M E).nx } σ3 H3) := by
    rintro J H1 ⟨xs, ds1, F1, N, M1, P, w1, t1, s1, p1, W, L, k1⟩
    refine for_core hg hb w1 s1 p1 W L k1 (fun {F' H' M' σ' ds'} w' t' p' s' pin' k' => ?_) (fun {F' H' A M' σ' ds' d v} w' t' p' r' s' pin' k' => ?_)
    · have hs : M'.Sublist (N ++ M') := List.sublist_append_right _ _
      exact ⟨ds', F', M', w'.part hs, (t1.trans w0 w1 t').drop fun a h => hs.subset h, s', pin', k'⟩
    · have hs : (A ++ M').Sublist (N ++ (A ++ M')) := List.sublist_append_right _ _
      exact ⟨σ', d, ds', F', A, M', w'.part hs, (t1.trans w0 w1 t').drop fun a h => hs.subset h, r', s', pin', k'⟩
  exact to_wS (ps_for hp hc (pi_mono hpi) (pg_w tg) (pss_w body) hs) ⟨_, h, step⟩⟩
end
end M

namespace M
open PySem PySem.Spec PyProof.Rows L2

/-! ### a block's own slots, put aside -/
def unset : List Nat → DS → DS
  | [], s => s
  | v :: vs, s => (unset vs s).set v .off
def restore : List Nat → DS → DS → DS
  | [], _, s => s
  | v :: vs, s0, s => restore vs s0 (s.set v ((unset vs s0).getD v .off))
theorem unset_length : ∀ (vs : List Nat) (s : DS), (unset vs s).length = s.length
  | [], _ => rfl
  | v :: vs, s => by rw [unset, List.length_set, unset_length vs s]
section
variable {K : PySem.W.Frag}
theorem rpO_none {F H : Hp} {d : D} {N : List Addr} (h : RpO K F H d none N) : N = [] := by
  generalize e : (none : Option V) = x at h
  cases h with
  | any => rfl
  | on => cases e
theorem SR.hide {F H : Hp} {ds : DS} {σ : L2.St} {M : List Addr} (s : SR K F H ds σ M) : ∀ {vs : List Nat}, (∀ v ∈ vs, v < ds.length) → ∃ Ns M1, M.Perm (Ns ++ M1) ∧ SR K F H (unset vs ds) (wipe σ vs) M1 ∧
    ∀ {F' H' : Hp} {ds' : DS} {M' : List Addr}, (∀ a u, F a = some u → F' a = some u) → (∀ a ∈ Ns, H' a = H a) → ds'.length = ds.length → SR K F' H' ds' (wipe σ vs) M' → ∃ M2, M2.Perm (Ns ++ M') ∧ SR K F' H' (restore vs ds ds') σ M2
  | [], _ => ⟨[], M, List.Perm.refl _, s, fun _ _ _ s' => ⟨_, List.Perm.refl _, s'⟩⟩
  | v :: vs, hv => by
    obtain ⟨Ns, M1, p, s1, back⟩ := SR.hide s (vs := vs) fun w h => hv w (List.mem_cons_of_mem _ h)
    have hl : v < (unset vs ds).length := by rw [unset_length]; exact hv v List.mem_cons_self
    have ev : (unset vs ds)[v]? = some ((unset vs ds).getD v .off) := by rw [List.getD_eq_getElem?_getD, List.getElem?_eq_getElem hl]; rfl
    obtain ⟨x, N, R, e, r, p1, put⟩ := s1.take ev
    obtain ⟨R', pR, sR⟩ := put F H .off none [] (fun _ _ h => h) (fun _ _ => rfl) (.any none)
    refine ⟨N ++ Ns, R', ?_, sR, fun {F' H' ds' M'} up k el s' => ?_⟩
    · refine (p.trans ((p1.append_left Ns))).trans ?_
      have pR' : R.Perm R' := pR.symm
      rw [List.append_assoc]
      exact (List.Perm.append_left Ns (pR'.append_left N)).trans (by rw [← List.append_assoc, ← List.append_assoc]; exact List.Perm.append_right _ List.perm_append_comm)
    · have hl' : v < ds'.length := by rw [el]; exact hv v List.mem_cons_self
      obtain ⟨x', N', R2, e', r', p', put'⟩ := s'.take (List.getElem?_eq_getElem hl')
      have hσ : (wipe σ (v :: vs))[v]? = some none := by
        show ((wipe σ vs).set v none)[v]? = some none
        obtain ⟨hlt, _⟩ := List.getElem?_eq_some_iff.mp e
        rw [List.getElem?_set_self hlt]
      rw [hσ] at e'
      cases e'
      have hN' : N' = [] := rpO_none r'
      subst hN'
      have r1 : RpO K F' H' ((unset vs ds).getD v .off) x N := r.mono up fun a q => k a (List.mem_append_left _ q)
      obtain ⟨M3, p3, s3⟩ := put' F' H' _ x N (fun _ _ h => h) (fun _ _ => rfl) r1
      have eσ : (wipe σ (v :: vs)).set v x = wipe σ vs := by
        show ((wipe σ vs).set v none).set v x = _
        rw [List.set_set, setσ e]
      rw [eσ] at s3
      obtain ⟨M2, p2, s2⟩ := back up (fun a q => k a (List.mem_append_right _ q)) (by rw [List.length_set]; exact el) s3
      refine ⟨M2, p2.trans ?_, s2⟩
      have p'' : R2.Perm M' := p'.symm
      refine (List.Perm.append_left Ns (p3.trans (p''.append_left N))).trans ?_
      rw [← List.append_assoc]
      exact List.Perm.append_right _ List.perm_append_comm
end

/-! ### a list comprehension -/
def wlcL (g : DG) (t : DT) (e : DE) (vs : List Nat) (k : List D → DS → Prop) : List D → List D → DS → Prop
  | [], acc, s => k acc s
  | x :: xs, acc, s => g x s fun s1 => t s1 fun c s2 => if c = true then e s2 fun y s3 => wlcL g t e vs k xs (acc ++ [y]) (unset vs s3) else wlcL g t e vs k xs acc (unset vs s2)
def wlc (it : DS → (List D → DS → Prop) → Prop) (g : DG) (t : DT) (e : DE) (vs : List Nat) : DE := fun s Q => it s fun xs s1 => xs.length ≤ sizeLine ∧ (∀ v ∈ vs, v < s1.length) ∧ wlcL g t e vs (fun ys s2 => Q (.lst true ys) (restore vs s1 s2)) xs [] (unset vs s1)
def tyes : DT := fun s k => k true s
structure MTs (X : Cx) (ifs : List Expr) (t : DT) : Prop where
  run : ∃ tt, PTs X ifs tt ∧ ∀ {F H : Hp} {M : List Addr} {σ : L2.St} {ds : DS} {Q : Bool → DS → Prop}, Wd F H M → SR X.K F H ds σ M → t ds Q → tt σ H (ResT X σ F H M Q)
theorem mts_nil {X : Cx} : MTs X [] tyes := ⟨tYes, pts_nil, fun {F H M σ ds Q} w0 s0 q => (show ResT X σ F H M Q true H from ⟨ds, F, M, w0, Tr.refl F H M, s0, q⟩)⟩
theorem mts_one {X : Cx} {c : Expr} {t : DT} (h : MT X c t) : MTs X [c] t := ⟨_, pts_one (pt_w c), fun w0 s0 q => h.run w0 s0 q⟩
/-- all slots but vs -/
def roC (n : Nat) (vs : List Nat) : List Nat := (List.range n).filter fun j => !vs.contains j
theorem wipe_pin {n : Nat} {vs : List Nat} {σ σ2 : L2.St} (hn : σ.length = n) (p : Pin (roC n vs) (wipe σ vs) σ2) : wipe σ2 vs = wipe σ vs := by
  have hlen : σ2.length = σ.length := by rw [p.1, wipe_length]
  apply List.ext_getElem?
  intro j
  by_cases hj : j ∈ vs
  · have both : ∀ τ : L2.St, ∀ vs : List Nat, j ∈ vs → (wipe τ vs)[j]? = if j < τ.length then some none else none := by
      intro τ vs
      induction vs with
      | nil => intro h; cases h
      | cons v vs ih =>
        intro h
        show ((wipe τ vs).set v none)[j]? = _
        by_cases e : v = j
        · subst e
          by_cases hl : v < τ.length
          · rw [if_pos hl, List.getElem?_set_self (by rw [wipe_length]; exact hl)]
          · rw [if_neg hl, List.getElem?_eq_none_iff.mpr (by rw [List.length_set, wipe_length]; omega)]
        · rw [List.getElem?_set_ne e]
          exact ih ((List.mem_cons.mp h).resolve_left fun z => e z.symm)
    rw [both σ2 vs hj, both σ vs hj, hlen]
  · have e1 : (wipe σ2 vs)[j]? = σ2[j]? := wipe_out hj
    rw [e1]
    by_cases hl : j < n
    · exact p.2 j (List.mem_filter.mpr ⟨List.mem_range.mpr hl, by simp [hj]⟩)
    · rw [List.getElem?_eq_none_iff.mpr (by omega), List.getElem?_eq_none_iff.mpr (by rw [wipe_length]; omega)]
/-- a world with the new list at D beside -/
theorem RpL.snoc {K : PySem.W.Frag} {F H : Hp} : ∀ {ds : List D} {vs : List V} {M N : List Addr} {d : D} {v : V}, RpL K F H ds vs M → Rp K F H d v N → RpL K F H (ds ++ [d]) (vs ++ [v]) (M ++ N)
  | _, _, _, N, d, v, .nil, r => by
    have := RpL.cons r (RpL.nil (K := K) (F := F) (H := H))
    rw [List.append_nil] at this
    exact this
  | _, _, _, N, d, v, .cons h l, r => by
    rw [List.append_assoc]
    exact .cons h (RpL.snoc l r)
section
variable {X : Cx} {pos : Pos}
structure BlkM (X : Cx) (scope : Scope) (vs : List Nat) (tg elt : Expr) (ifs : List Expr) (g : DG) (t : DT) (e : DE) : Prop where
  g : ∀ (s : Shared) (H : Hp) (C : Addr) (cl : List (Str × Addr)) (fp : List Addr), MG (X.blk s H scope (compEnvC scope cl C X.env) fp) (roC X.N.length vs) tg g
  t : ∀ (s : Shared) (H : Hp) (C : Addr) (cl : List (Str × Addr)) (fp : List Addr), MTs (X.blk s H scope (compEnvC scope cl C X.env) fp) ifs t
  e : ∀ (s : Shared) (H : Hp) (C : Addr) (cl : List (Str × Addr)) (fp : List Addr), ME (X.blk s H scope (compEnvC scope cl C X.env) fp) elt e

/-- an owned object gets another content -/
theorem set_own {F H : Hp} {A : List Addr} {p : Addr} {o : HO} (w : Wd F H A) (hp : p ∈ A) : Wd F (upd H p o) A ∧ Tr F H A F (upd H p o) A ∧ (∀ a, a ≠ p → upd H p o a = H a) := by
  have Fp := w.fr p hp
  refine ⟨⟨fun a u h => ?_, w.nd, w.fr, fun a h => ?_⟩, ⟨fun _ _ h => h, fun _ h => .inl h, fun a h => .inl h, fun a u h hA _ => ?_⟩, fun a h => upd_ne h⟩
  · have : a ≠ p := fun z => by rw [z, Fp] at h; cases h
    rw [upd_ne this]; exact w.sub a u h
  · by_cases q : a = p
    · subst q; rw [upd_same]; exact fun z => nomatch z
    · rw [upd_ne q]; exact w.th a h
  · rw [upd_ne fun z => hA (by rw [z]; exact hp)]; exact h
variable {scope : Scope} {vs : List Nat} {tg elt iter : Expr} {ifs : List Expr} {g : DG} {t : DT} {e : DE}
def bG (X : Cx) (scope : Scope) (tg : Expr) : TG := fun v σ H0 Q => ∀ (s : Shared) (H : Hp) (C : Addr) (cl : List (Str × Addr)) (fp : List Addr), wG (X.blk s H scope (compEnvC scope cl C X.env) fp) tg v σ H0 Q
def bT (X : Cx) (scope : Scope) (ifs : List Expr) : TT := fun σ H0 Q => ∀ (s : Shared) (H : Hp) (C : Addr) (cl : List (Str × Addr)) (fp : List Addr), ∃ tt, PTs (X.blk s H scope (compEnvC scope cl C X.env) fp) ifs tt ∧ tt σ H0 Q
def bE (X : Cx) (scope : Scope) (elt : Expr) : TE := fun σ H0 Q => ∀ (s : Shared) (H : Hp) (C : Addr) (cl : List (Str × Addr)) (fp : List Addr), wE (X.blk s H scope (compEnvC scope cl C X.env) fp) elt σ H0 Q
theorem PTs.post {ts : List Expr} {t : TT} (h : PTs X ts t) {k : Bool → Hp → Prop} : PTs X ts (fun σ H Q => t σ H k ∧ ∀ b H', k b H' → Q b H') := ⟨fun pins s σ H Q I q =>
  thn (h.run pins s σ H k I q.1) fun _ s' ⟨H', I', q'⟩ => ⟨H', I', q.2 _ _ q'⟩⟩
/-- how the machine makes the list at D -/
theorem lc_core0 {k : List D → DS → Prop} {J : It} {P : Hp → Hp → Prop} {xs : List D} {F H : Hp} {N M : List Addr} {σ : L2.St} {ds : DS} {a : Addr} {Q : VK} (B : BlkM X scope vs tg elt ifs g t e) (hX : X.N.length = σ.length)
    (w0 : Wd F H (N ++ M)) (s0 : SR X.K F H ds (wipe σ vs) M) (p0 : P F H) (W : Walks X J P xs) (L : Lies N P) (hl : xs.length ≤ sizeLine) (hv : ∀ v ∈ vs, v < σ.length) (q : wlcL g t e vs k xs [] ds) (ha : H a = none)
    (ends : ∀ {F' H' : Hp} {A M' : List Addr} {acc : List D} {va : List V} {ds' : DS}, Wd F' H' (M' ++ (N ++ (a :: A))) → Tr F H (N ++ M) F' H' (M' ++ (N ++ (a :: A))) → P F' H' → H' a = some (.lst va) → RpL X.K F' H' acc va A → SR X.K F' H' ds' (wipe σ vs) M' → k acc ds' → Q (.ref a) H') :
    ∃ W : Nat → Nat → Hp → Prop, (∃ m, W 0 m (upd H a (.lst []))) ∧ ∀ i m H, W i m H → (J.stop i H ∧ Q (.ref a) H) ∨ (J.go i H ∧ ∃ Nx : Hp → Prop, (∀ H', Nx H' → ∃ m', m' < m ∧ W (i + 1) m' H') ∧ ∀ x H', J.yld i H x H' → bG X scope tg x (wipe σ vs) H' fun σ2 H2 => wipe σ2 vs = wipe σ vs ∧ bT X scope ifs σ2 H2 fun b H3 => if b = true then bE X scope elt σ2 H3 fun y H4 => ∃ acc, H4 a = some (.lst acc) ∧ acc.length < sizeLine ∧ Nx (upd H4 a (.lst (acc ++ [y]))) else Nx H3) := by
  let I : Nat → Hp → Prop := fun i H' => ∃ ds' acc va F' A M', Wd F' H' (M' ++ (N ++ (a :: A))) ∧ Tr F H (N ++ M) F' H' (M' ++ (N ++ (a :: A))) ∧ P F' H' ∧ H' a = some (.lst va) ∧ RpL X.K F' H' acc va A ∧ SR X.K F' H' ds' (wipe σ vs) M' ∧ va.length ≤ i ∧ wlcL g t e vs k (xs.drop i) acc ds'
  refine ⟨fun i m H' => m = xs.length - i ∧ i ≤ xs.length ∧ I i H', ⟨xs.length, by simp, Nat.zero_le _, ds, [], [], F, [], M, ?_⟩, ?_⟩
  · obtain ⟨w1, t1, e1⟩ := new_own (o := .lst []) w0 ha
    have pm : (M ++ (N ++ [a])).Perm (a :: (N ++ M)) := by
      rw [← List.append_assoc]
      exact (List.perm_append_comm (l₁ := M ++ N) (l₂ := [a])).trans (List.Perm.cons a (List.perm_append_comm (l₁ := M) (l₂ := N)))
    exact ⟨w1.perm pm, t1.drop fun b h => pm.mem_iff.mp h, L (fun _ _ h => h) (fun b h => e1 b (List.mem_append_left _ h)) p0, upd_same, .nil, s0.mono (fun _ _ h => h) fun b h => e1 b (List.mem_append_right _ h), Nat.le_refl 0, q⟩
  · rintro i m H1 ⟨rfl, hi, ds1, acc, va, F1, A, M1, w1, t1, p1, a1, l1, s1, b1, q1⟩
    by_cases hlt : i < xs.length
    · refine .inr ⟨W.go w1.sub p1 hlt, I (i + 1), fun H' h => ⟨xs.length - (i + 1), by omega, rfl, hlt, h⟩, fun x H2 y => ?_⟩
      have ex : xs[i]? = some xs[i] := List.getElem?_eq_getElem hlt
      obtain ⟨F2, w2, t2, e2, r2⟩ := W.item w1 p1 y ex
      rw [List.drop_eq_getElem_cons hlt] at q1
      have t12 : Tr F1 H1 (M1 ++ (N ++ (a :: A))) F2 H2 (M1 ++ (N ++ (a :: A))) := (frame (A := []) (B := []) (R := M1 ++ (N ++ (a :: A))) w1 t2 (w2.part (List.nil_sublist _))).tr
      have t02 := t1.trans w0 w1 t12
      have s2 := s1.mono t2.up fun b h => e2 b (List.mem_append_left _ h)
      have r2L : ∀ b ∈ N ++ (a :: A), H2 b = H1 b := fun b h => e2 b (List.mem_append_right _ h)
      have p2 : P F2 H2 := L t2.up (fun b h => r2L b (List.mem_append_left _ h)) p1
      have a2 : H2 a = some (.lst va) := (r2L a (List.mem_append_right _ List.mem_cons_self)).trans a1
      have l2 := l1.mono t2.up fun b h => r2L b (List.mem_append_right _ (List.mem_cons_of_mem _ h))
      have wM2 : Wd F2 H2 ([] ++ M1) := w2.part (List.sublist_append_left _ _)
      -- the turn, as it is carried on
      have turn : ∀ {F3 H3 : Hp} {M3 : List Addr}, Wd F3 H3 M3 → Tr F2 H2 M1 F3 H3 M3 → Beside F2 H2 M1 (N ++ (a :: A)) F3 H3 M3 ∧ P F3 H3 ∧ H3 a = some (.lst va) ∧ RpL X.K F3 H3 acc va A := fun w3 t3 => by
        have b3 := frame w2 t3 w3
        exact ⟨b3, L t3.up (fun b h => b3.same b (List.mem_append_left _ h)) p2, (b3.same a (List.mem_append_right _ List.mem_cons_self)).trans a2, l2.mono t3.up fun b h => b3.same b (List.mem_append_right _ (List.mem_cons_of_mem _ h))⟩
      intro s H C cl fp
      refine wG.imp ((B.g s H C cl fp).run wM2 r2 s2 q1) fun σ3 H3 ⟨ds3, F3, M3, w3, t3, s3, pin3, q3⟩ => ?_
      have hw : wipe σ3 vs = wipe σ vs := wipe_pin hX.symm (by rw [hX] at pin3; exact hX ▸ pin3)
      refine ⟨hw, fun s' H' C' cl' fp' => ?_⟩
      obtain ⟨tt, htt, hrun⟩ := (B.t s' H' C' cl' fp').run
      refine ⟨_, PTs.post htt, hrun w3 s3 q3, fun b H4 ⟨ds4, F4, M4, w4, t4, s4, q4⟩ => ?_⟩
      have hlv : ∀ {dd : DS} {F' H' : Hp} {M' : List Addr}, SR X.K F' H' dd σ3 M' → ∀ v ∈ vs, v < dd.length := fun s v h => by
        have hl := s.len
        have e1 := congrArg List.length hw
        rw [wipe_length, wipe_length] at e1
        have := hv v h
        omega
      have t24 := t3.trans (w2.part (List.sublist_append_left _ _)) w3 t4
      cases b with
      | false =>
        show I (i + 1) H4
        obtain ⟨Nh, Mh, ph, sh, _⟩ := s4.hide (hlv s4)
        rw [hw] at sh
        obtain ⟨b4, p4, a4, l4⟩ := turn w4 t24
        have sub4 : (Mh ++ (N ++ (a :: A))).Sublist ((Nh ++ Mh) ++ (N ++ (a :: A))) := List.Sublist.append_right (List.sublist_append_right _ _) _
        have pp := List.Perm.append_right (N ++ (a :: A)) ph
        exact ⟨_, acc, va, F4, A, Mh, (b4.wd.perm pp.symm).part sub4, (t02.trans w0 w2 b4.tr).drop fun b h => pp.mem_iff.mpr (sub4.subset h), p4, a4, l4, sh, by omega, q4⟩
      | true =>
        show bE X scope elt σ3 H4 fun y H4 => ∃ acc, H4 a = some (.lst acc) ∧ acc.length < sizeLine ∧ I (i + 1) (upd H4 a (.lst (acc ++ [y])))
        intro s' H' C' cl' fp'
        refine wE.imp ((B.e s' H' C' cl' fp').run w4 s4 q4) fun y H5 ⟨d5, ds5, F5, N5, M5, w5, t5, r5, s5, q5⟩ => ?_
        obtain ⟨Nh, Mh, ph, sh, _⟩ := s5.hide (hlv s5)
        rw [hw] at sh
        obtain ⟨b5, p5, a5, l5⟩ := turn w5 (t24.trans (w2.part (List.sublist_append_left _ _)) w4 t5)
        have hsz : va.length < sizeLine := by omega
        refine ⟨va, a5, hsz, ?_⟩
        obtain ⟨w6, t6, e6⟩ := set_own (o := .lst (va ++ [y])) b5.wd (p := a) (List.mem_append_right _ (List.mem_append_right _ List.mem_cons_self))
        have nd := b5.wd.nd
        have notin : ∀ b ∈ (N5 ++ M5) ++ N, b ≠ a := fun b h z => by
          subst z
          rw [← List.append_assoc] at nd
          exact (List.nodup_append.mp nd).2.2 b h b List.mem_cons_self rfl
        have notA : ∀ b ∈ A, b ≠ a := fun b h z => by
          subst z
          rw [← List.append_assoc] at nd
          exact (List.nodup_cons.mp (List.nodup_append.mp nd).2.1).1 h
        have pMh : (N5 ++ M5).Perm (N5 ++ (Nh ++ Mh)) := List.Perm.append_left N5 ph
        have pp : (Mh ++ (N ++ (a :: (A ++ N5)))).Perm ((N5 ++ Mh) ++ (N ++ (a :: A))) := by
          have h1 : (Mh ++ (N ++ (a :: (A ++ N5)))) = (Mh ++ (N ++ (a :: A))) ++ N5 := by simp
          rw [h1, List.append_assoc N5 Mh]
          exact List.perm_append_comm
        have sub6 : ((N5 ++ Mh) ++ (N ++ (a :: A))).Sublist ((N5 ++ (Nh ++ Mh)) ++ (N ++ (a :: A))) := List.Sublist.append_right (List.Sublist.append_left (List.sublist_append_right _ _) _) _
        have pq := List.Perm.append_right (N ++ (a :: A)) pMh
        refine ⟨_, acc ++ [d5], va ++ [y], F5, A ++ N5, Mh, ((w6.perm pq.symm).part sub6).perm pp, ((t02.trans w0 w2 b5.tr).trans w0 b5.wd t6).drop fun b h => pq.mem_iff.mpr (sub6.subset (pp.mem_iff.mp h)), ?_, upd_same, ?_, ?_, by rw [List.length_append]; exact Nat.succ_le_succ b1, q5⟩
        · exact L (fun _ _ h => h) (fun b h => e6 b (notin b (List.mem_append_right _ h))) p5
        · exact RpL.snoc (l5.mono (fun _ _ h => h) fun b h => e6 b (notA b h)) (r5.mono (fun _ _ h => h) fun b h => e6 b (notin b (List.mem_append_left _ (List.mem_append_left _ h))))
        · refine sh.mono (fun _ _ h => h) fun b h => e6 b (notin b (List.mem_append_left _ ?_))
          exact pMh.mem_iff.mpr (List.mem_append_right _ (List.mem_append_right _ h))
    · have ei : i = xs.length := by omega
      subst ei
      rw [List.drop_length] at q1
      exact .inl ⟨W.stop w1.sub p1, ends w1 t1 p1 a1 l1 s1 q1⟩

/-- for a clause: what MI gives, at the machine -/
theorem lc_step {J : It} {F H F1 H1 : Hp} {M M1 N : List Addr} {P : Hp → Hp → Prop} {xs : List D} {σ : L2.St} {ds1 : DS} {Q : D → DS → Prop} (B : BlkM X scope vs tg elt ifs g t e) (hX : X.N.length = σ.length) (w0 : Wd F H M)
    (w1 : Wd F1 H1 (N ++ M1)) (t1 : Tr F H M F1 H1 (N ++ M1)) (s1 : SR X.K F1 H1 ds1 σ M1) (p1 : P F1 H1) (W : Walks X J P xs) (L : Lies N P)
    (k1 : xs.length ≤ sizeLine ∧ (∀ v ∈ vs, v < ds1.length) ∧ wlcL g t e vs (fun ys s2 => Q (.lst true ys) (restore vs ds1 s2)) xs [] (unset vs ds1)) :
    ∀ a, H1 a = none → ∃ W : Nat → Nat → Hp → Prop, (∃ m, W 0 m (upd H1 a (.lst []))) ∧ ∀ i m H', W i m H' → (J.stop i H' ∧ Res X σ F H M Q (.ref a) H') ∨ (J.go i H' ∧ ∃ Nx : Hp → Prop, (∀ H', Nx H' → ∃ m', m' < m ∧ W (i + 1) m' H') ∧ ∀ x H2, J.yld i H' x H2 → bG X scope tg x (wipe σ vs) H2 fun σ2 H2 => wipe σ2 vs = wipe σ vs ∧ bT X scope ifs σ2 H2 fun b H3 => if b = true then bE X scope elt σ2 H3 fun y H4 => ∃ acc, H4 a = some (.lst acc) ∧ acc.length < sizeLine ∧ Nx (upd H4 a (.lst (acc ++ [y]))) else Nx H3) := by
  intro a ha
  obtain ⟨k0, hv, k1⟩ := k1
  have hvσ : ∀ v ∈ vs, v < σ.length := fun v h => by rw [← s1.len]; exact hv v h
  obtain ⟨Nh, Mh, ph, sh, back⟩ := s1.hide hv
  have pp : ((N ++ Nh) ++ Mh).Perm (N ++ M1) := by rw [List.append_assoc]; exact List.Perm.append_left N ph.symm
  have L' : Lies (N ++ Nh) (fun F' H' => P F' H' ∧ (∀ a u, F1 a = some u → F' a = some u) ∧ ∀ b ∈ Nh, H' b = H1 b) := fun up k ⟨p, u, z⟩ => ⟨L up (fun b h => k b (List.mem_append_left _ h)) p, fun a v h => up a v (u a v h), fun b h => (k b (List.mem_append_right _ h)).trans (z b h)⟩
  have W' : Walks X J (fun F' H' => P F' H' ∧ (∀ a u, F1 a = some u → F' a = some u) ∧ ∀ b ∈ Nh, H' b = H1 b) xs := ⟨fun w p => W.go w p.1, fun w p => W.stop w p.1, fun w p => W.item w p.1⟩
  refine lc_core0 B hX (w1.perm pp) sh ⟨p1, fun _ _ h => h, fun _ _ => rfl⟩ W' L' k0 hvσ k1 ha fun {F' H' A M' acc va ds'} w' t' p' a' l' s' q' => ?_
  obtain ⟨M2, p2, s2⟩ := back p'.2.1 p'.2.2 (by have h1 := s'.len; have h2 := s1.len; rw [wipe_length] at h1; omega) s'
  have q1 : ((a :: A) ++ M2).Perm ((a :: A) ++ (Nh ++ M')) := List.Perm.append_left _ p2
  have q2 : (N ++ ((a :: A) ++ (Nh ++ M'))).Perm (M' ++ ((N ++ Nh) ++ (a :: A))) := by
    have h1 : (M' ++ ((N ++ Nh) ++ (a :: A))) = (M' ++ (N ++ Nh)) ++ (a :: A) := by simp
    rw [h1]
    have h2 : ((M' ++ (N ++ Nh)) ++ (a :: A)).Perm (((N ++ Nh) ++ M') ++ (a :: A)) := List.Perm.append_right _ List.perm_append_comm
    refine List.Perm.trans ?_ h2.symm
    have h3 : (((N ++ Nh) ++ M') ++ (a :: A)) = N ++ ((Nh ++ M') ++ (a :: A)) := by simp
    rw [h3]
    exact List.Perm.append_left N List.perm_append_comm
  have sub : ((a :: A) ++ (Nh ++ M')).Sublist (N ++ ((a :: A) ++ (Nh ++ M'))) := List.sublist_append_right _ _
  have tA : Tr F1 H1 (N ++ M1) F' H' (M' ++ ((N ++ Nh) ++ (a :: A))) := t'.wide fun b h => pp.mem_iff.mp h
  refine ⟨.lst true acc, _, F', a :: A, M2, ((w'.perm q2).part sub).perm q1, (t1.trans w0 w1 tA).drop fun b h => q2.mem_iff.mp (sub.subset (q1.mem_iff.mp h)), .lstO a' l', s2, q'⟩
theorem bG_p : ∀ (s : Shared) (H : Hp) (C : Addr) (cl : List (Str × Addr)) (fp : List Addr), PG (X.blk s H scope (compEnvC scope cl C X.env) fp) tg (bG X scope tg) := fun s H C cl fp => ⟨fun pins s' _ _ _ u _ I r q => q s H C cl fp pins s' u I r⟩
theorem bT_p : ∀ (s : Shared) (H : Hp) (C : Addr) (cl : List (Str × Addr)) (fp : List Addr), PTs (X.blk s H scope (compEnvC scope cl C X.env) fp) ifs (bT X scope ifs) := fun s H C cl fp => ⟨fun pins s' σ H' Q I q => by
  obtain ⟨tt, h, q⟩ := q s H C cl fp
  exact h.run pins s' σ H' Q I q⟩
theorem bE_p : ∀ (s : Shared) (H : Hp) (C : Addr) (cl : List (Str × Addr)) (fp : List Addr), PE (X.blk s H scope (compEnvC scope cl C X.env) fp) elt (bE X scope elt) := fun s H C cl fp => ⟨fun pins s' _ _ _ I q => q s H C cl fp pins s' I⟩
theorem me_lc {own : List (Str × Nat)} {it : DS → (List D → DS → Prop) → Prop} (hc : X.calm = true) (hN : X.N.Nodup) (hi : MI X tg iter it) (ok : BlkOk X.N X.env.scope scope own) (B : BlkM X scope (own.map (·.2)) tg elt ifs g t e) (hs : ∀ x, foldedSetIterable iter X.env x = pure x := by intro _; rfl) :
    ME X (.ListComp elt [⟨tg, iter, ifs, 0⟩] scope pos) (wlc it g t e (own.map (·.2))) := ⟨fun {F H M σ ds Q} w0 s0 q => by
  obtain ⟨wi, hpi, hrun⟩ := hi.run
  have h := hrun w0 s0 q
  intro pins s I
  have hX : X.N.length = σ.length := I.len.symm
  refine to_wE (pe_lc hc hN (pi_mono hpi) ok bG_p bT_p bE_p hs) ⟨_, h, ?_⟩ pins s I
  rintro J H1 ⟨xs, ds1, F1, N, M1, P, w1, t1, s1, p1, W, L, k1⟩
  exact lc_step B hX w0 w1 t1 s1 p1 W L k1⟩
theorem ms_setLc {own : List (Str × Nat)} {it : DS → (List D → DS → Prop) → Prop} {ro : List Nat} {i : Nat} {y : Str} {py spos : Pos} (hc : X.calm = true) (hN : X.N.Nodup) (hy : X.N[i]? = some y) (hr : i ∉ ro) (hyl : X.env.scope.names.lookup y = some .local)
    (hsw : swapsWith (.ListComp elt [⟨tg, iter, ifs, 0⟩] scope pos) (some (.Name y py)) spos.line X.env = pure true)
    (hi : MI X tg iter it) (ok : BlkOk X.N X.env.scope scope own) (B : BlkM X scope (own.map (·.2)) tg elt ifs g t e) (hs : ∀ x, foldedSetIterable iter X.env x = pure x := by intro _; rfl) :
    MS X ro (.Assign [.Name y py] (.ListComp elt [⟨tg, iter, ifs, 0⟩] scope pos) spos) (wasg (gname i) (wlc it g t e (own.map (·.2)))) := ⟨fun {F H M σ ds E} w0 s0 q => by
  obtain ⟨wi, hpi, hrun⟩ := hi.run
  have h := hrun w0 s0 q
  intro pins s I
  have hX : X.N.length = σ.length := I.len.symm
  refine to_wS (ps_setLc hc hN hy hyl hsw (pi_mono hpi) ok bG_p bT_p bE_p hs) ⟨_, h, ?_⟩ pins s I
  rintro J H1 ⟨xs, ds1, F1, N, M1, P, w1, t1, s1, p1, W, L, k1⟩
  intro a ha
  obtain ⟨W1, h0, hstep⟩ := lc_step (Q := fun d s1 => gname i d s1 E.nx) B hX w0 w1 t1 s1 p1 W L k1 a ha
  refine ⟨W1, h0, fun i' m H' hw => (hstep i' m H' hw).imp (fun ⟨h1, h2⟩ => ⟨h1, ?_⟩) id⟩
  obtain ⟨d, ds2, F2, N2, M2, w2, t2, r2, s2, hlt, k2⟩ := h2
  obtain ⟨M3, w3, sub3, s3⟩ := set_slot w2 s2 hlt r2
  exact ⟨_, F2, M3, w3, t2.drop sub3, s3, pin_set hr _, k2⟩⟩
end
end M

namespace M
open PySem PySem.Spec PyProof.Rows L2

/-! ### the parts of data -/
def setV {κ α : Type} : List (κ × α) → Nat → α → List (κ × α)
  | [], _, _ => []
  | (k, _) :: r, 0, c => (k, c) :: r
  | p :: r, n + 1, c => p :: setV r n c
theorem setV_1 {κ α : Type} : ∀ (kvs : List (κ × α)) (n : Nat) (c : α), (setV kvs n c).map (·.1) = kvs.map (·.1)
  | [], _, _ => rfl
  | (k, _) :: r, 0, c => rfl
  | p :: r, n + 1, c => congrArg (p.1 :: ·) (setV_1 r n c)
theorem setV_2 {κ α : Type} : ∀ (kvs : List (κ × α)) (n : Nat) (c : α), (setV kvs n c).map (·.2) = (kvs.map (·.2)).set n c
  | [], _, _ => rfl
  | (k, _) :: r, 0, c => rfl
  | p :: r, n + 1, c => congrArg (p.2 :: ·) (setV_2 r n c)
def idxK {κ α : Type} [DecidableEq κ] : List (κ × α) → κ → Option Nat
  | [], _ => none
  | (k', _) :: r, k => if k' = k then some 0 else (idxK r k).map (· + 1)
def kids : D → Option (List D)
  | .tup xs => some xs
  | .lst _ xs => some xs
  | .frl xs => some xs
  | .dK _ kvs => some (kvs.map (·.2))
  | .dT _ kvs => some (kvs.map (·.2))
  | .ins _ _ fs => some (fs.map (·.2))
  | _ => none
def setKid : D → Nat → D → D
  | .tup xs, n, c => .tup (xs.set n c)
  | .lst o xs, n, c => .lst o (xs.set n c)
  | .frl xs, n, c => .frl (xs.set n c)
  | .dK o kvs, n, c => .dK o (setV kvs n c)
  | .dT o kvs, n, c => .dT o (setV kvs n c)
  | .ins o C fs, n, c => .ins o C (setV fs n c)
  | d, _, _ => d
/-- how an object holds its parts -/
def KidsAt (K : PySem.W.Frag) (H : Hp) : D → V → List V → Prop
  | .tup _, v, vs => ∃ a, v = .ref a ∧ SqT K H a vs
  | .lst _ _, v, vs => ∃ a, v = .ref a ∧ SqL K H a vs
  | .frl _, v, vs => ∃ a, v = .ref a ∧ SqL K H a vs
  | .dK _ kvs, v, vs => ∃ a hk, v = .ref a ∧ Rd H a (.dK hk) ∧ hk.map (·.1) = kvs.map (·.1) ∧ hk.map (·.2) = vs
  | .dT _ kvs, v, vs => ∃ a hk, v = .ref a ∧ Rd H a (.dT hk) ∧ hk.map (·.1) = kvs.map (·.1) ∧ hk.map (·.2) = vs
  | .ins _ C fs, v, vs => ∃ a dx hf, v = .ref a ∧ H a = some (.ins C dx hf) ∧ hf.map (·.1) = fs.map (·.1) ∧ hf.map (·.2) = vs
  | _, _, _ => False
section
variable {K : PySem.W.Frag} {F H F' H' : Hp}
theorem perm_in {A B C : List Addr} : (A ++ (B ++ C)).Perm (B ++ (A ++ C)) := by
  rw [← List.append_assoc, ← List.append_assoc]; exact List.Perm.append_right _ List.perm_append_comm
theorem RpL.take : ∀ {ds : List D} {vs : List V} {M : List Addr} {j : Nat} {d : D}, RpL K F H ds vs M → ds[j]? = some d → ∃ v N R, vs[j]? = some v ∧ Rp K F H d v N ∧ M.Perm (N ++ R) ∧
    (∀ {F' H' : Hp} {d' : D} {v' : V} {N' : List Addr}, (∀ a u, F a = some u → F' a = some u) → (∀ a ∈ R, H' a = H a) → Rp K F' H' d' v' N' → ∃ M', M'.Perm (N' ++ R) ∧ RpL K F' H' (ds.set j d') (vs.set j v') M') ∧
    (∀ {F' H' : Hp}, (∀ a u, F a = some u → F' a = some u) → (∀ a ∈ R, H' a = H a) → RpL K F' H' (ds.eraseIdx j) (vs.eraseIdx j) R)
  | _, _, _, j, _, .nil, h => by simp at h
  | _, _, _, 0, d, .cons (M := M) (N := N) h l, e => by
    simp only [List.getElem?_cons_zero, Option.some.injEq] at e
    subst e
    exact ⟨_, M, N, rfl, h, List.Perm.refl _, fun {F' H' d' v' N'} up k h' => ⟨N' ++ N, List.Perm.refl _, .cons h' (l.mono up k)⟩, fun up k => l.mono up k⟩
  | _, _, _, j + 1, d, .cons (M := M) (N := N) h l, e => by
    obtain ⟨v, N1, R1, e1, h1, p1, k1, k2⟩ := RpL.take (j := j) (d := d) l (by simpa using e)
    refine ⟨v, N1, M ++ R1, by simpa using e1, h1, (p1.append_left M).trans perm_in, fun {F' H' d' v' N'} up k h' => ?_, fun up k => ?_⟩
    · obtain ⟨M', p2, s2⟩ := k1 up (fun a q => k a (List.mem_append_right _ q)) h'
      exact ⟨M ++ M', (p2.append_left M).trans perm_in, .cons (h.mono up fun a q => k a (List.mem_append_left _ q)) s2⟩
    · exact .cons (h.mono up fun a q => k a (List.mem_append_left _ q)) (k2 up fun a q => k a (List.mem_append_right _ q))
theorem setSame {α : Type} {xs : List α} {i : Nat} {x : α} (h : xs[i]? = some x) : xs.set i x = xs := by
  apply List.ext_getElem?
  intro j
  by_cases e : j = i
  · subst e
    obtain ⟨hl, _⟩ := List.getElem?_eq_some_iff.mp h
    rw [List.getElem?_set_self hl, h]
  · rw [List.getElem?_set_ne (Ne.symm e)]
theorem Rp.kid (w : Sub F H) {d : D} {v : V} {M : List Addr} {xs : List D} {j : Nat} {c : D} (h : Rp K F H d v M) (ek : kids d = some xs) (ej : xs[j]? = some c) :
    ∃ vs vc N R, vs[j]? = some vc ∧ (vs.length = xs.length ∧ KidsAt K H d v vs) ∧ Rp K F H c vc N ∧ M.Perm (N ++ R) ∧
      ∀ {F' H' : Hp} {c' : D} {N' : List Addr}, (∀ a u, F a = some u → F' a = some u) → (∀ a ∈ R, H' a = H a) → Rp K F' H' c' vc N' → ∃ M', M'.Perm (N' ++ R) ∧ Rp K F' H' (setKid d j c') v M' := by
  have own : ∀ {a : Addr} {M N R : List Addr}, M.Perm (N ++ R) → (a :: M).Perm (N ++ (a :: R)) := fun p => (List.Perm.cons _ p).trans List.perm_middle.symm
  cases h with
  | tup q l =>
    cases ek
    obtain ⟨vc, N, R, e1, r1, p1, put, _⟩ := l.take ej
    refine ⟨_, vc, N, R, e1, ⟨l.len.symm, _, rfl, sub_sqT w q⟩, r1, p1, fun up k r' => ?_⟩
    obtain ⟨M', p', l'⟩ := put up k r'
    rw [setSame e1] at l'
    exact ⟨M', p', .tup (sqT_up up q) l'⟩
  | lstF q l =>
    cases ek
    obtain ⟨vc, N, R, e1, r1, p1, put, _⟩ := l.take ej
    refine ⟨_, vc, N, R, e1, ⟨l.len.symm, _, rfl, sub_sqL w (.inl (.inl q))⟩, r1, p1, fun up k r' => ?_⟩
    obtain ⟨M', p', l'⟩ := put up k r'
    rw [setSame e1] at l'
    exact ⟨M', p', .lstF (up _ _ q) l'⟩
  | frl q l =>
    cases ek
    obtain ⟨vc, N, R, e1, r1, p1, put, _⟩ := l.take ej
    refine ⟨_, vc, N, R, e1, ⟨l.len.symm, _, rfl, sub_sqL w q⟩, r1, p1, fun up k r' => ?_⟩
    obtain ⟨M', p', l'⟩ := put up k r'
    rw [setSame e1] at l'
    exact ⟨M', p', .frl (sqL_up up q) l'⟩
  | lstO q l =>
    cases ek
    obtain ⟨vc, N, R, e1, r1, p1, put, _⟩ := l.take ej
    refine ⟨_, vc, N, _, e1, ⟨l.len.symm, _, rfl, .inl (.inl q)⟩, r1, own p1, fun up k r' => ?_⟩
    obtain ⟨M', p', l'⟩ := put up (fun a q => k a (List.mem_cons_of_mem _ q)) r'
    rw [setSame e1] at l'
    exact ⟨_, own p', .lstO ((k _ List.mem_cons_self).trans q) l'⟩
  | dKF q e l =>
    cases ek
    obtain ⟨vc, N, R, e1, r1, p1, put, _⟩ := l.take ej
    refine ⟨_, vc, N, R, e1, ⟨l.len.symm, _, _, rfl, (w _ _ q).imp id fun z => z.2, e, rfl⟩, r1, p1, fun up k r' => ?_⟩
    obtain ⟨M', p', l'⟩ := put up k r'
    rw [setSame e1, ← setV_2] at l'
    exact ⟨M', p', .dKF (up _ _ q) (e.trans (setV_1 _ _ _).symm) l'⟩
  | dKO q e l =>
    cases ek
    obtain ⟨vc, N, R, e1, r1, p1, put, _⟩ := l.take ej
    refine ⟨_, vc, N, _, e1, ⟨l.len.symm, _, _, rfl, .inl q, e, rfl⟩, r1, own p1, fun up k r' => ?_⟩
    obtain ⟨M', p', l'⟩ := put up (fun a q => k a (List.mem_cons_of_mem _ q)) r'
    rw [setSame e1, ← setV_2] at l'
    exact ⟨_, own p', .dKO ((k _ List.mem_cons_self).trans q) (e.trans (setV_1 _ _ _).symm) l'⟩
  | dTF q e l =>
    cases ek
    obtain ⟨vc, N, R, e1, r1, p1, put, _⟩ := l.take ej
    refine ⟨_, vc, N, R, e1, ⟨l.len.symm, _, _, rfl, (w _ _ q).imp id fun z => z.2, e, rfl⟩, r1, p1, fun up k r' => ?_⟩
    obtain ⟨M', p', l'⟩ := put up k r'
    rw [setSame e1, ← setV_2] at l'
    exact ⟨M', p', .dTF (up _ _ q) (e.trans (setV_1 _ _ _).symm) l'⟩
  | dTO q e l =>
    cases ek
    obtain ⟨vc, N, R, e1, r1, p1, put, _⟩ := l.take ej
    refine ⟨_, vc, N, _, e1, ⟨l.len.symm, _, _, rfl, .inl q, e, rfl⟩, r1, own p1, fun up k r' => ?_⟩
    obtain ⟨M', p', l'⟩ := put up (fun a q => k a (List.mem_cons_of_mem _ q)) r'
    rw [setSame e1, ← setV_2] at l'
    exact ⟨_, own p', .dTO ((k _ List.mem_cons_self).trans q) (e.trans (setV_1 _ _ _).symm) l'⟩
  | insF q e l =>
    cases ek
    obtain ⟨vc, N, R, e1, r1, p1, put, _⟩ := l.take ej
    refine ⟨_, vc, N, R, e1, ⟨l.len.symm, _, _, _, rfl, (w _ _ q).elim id fun z => z.1.elim, e, rfl⟩, r1, p1, fun up k r' => ?_⟩
    obtain ⟨M', p', l'⟩ := put up k r'
    rw [setSame e1, ← setV_2] at l'
    exact ⟨M', p', .insF (up _ _ q) (e.trans (setV_1 _ _ _).symm) l'⟩
  | insO q e l =>
    cases ek
    obtain ⟨vc, N, R, e1, r1, p1, put, _⟩ := l.take ej
    refine ⟨_, vc, N, _, e1, ⟨l.len.symm, _, _, _, rfl, q, e, rfl⟩, r1, own p1, fun up k r' => ?_⟩
    obtain ⟨M', p', l'⟩ := put up (fun a q => k a (List.mem_cons_of_mem _ q)) r'
    rw [setSame e1, ← setV_2] at l'
    exact ⟨_, own p', .insO ((k _ List.mem_cons_self).trans q) (e.trans (setV_1 _ _ _).symm) l'⟩
  | _ => cases ek

/-! ### places: what lies in a slot or in a part of what lies there -/
abbrev PL := DS → Option (D × (D → DS))
def plN (i : Nat) : PL := fun s => match s[i]? with
  | none => none
  | some .off => none
  | some d => some (d, fun c => s.set i c)
inductive KE where
  | c (d : D) | n (i : Nat)
def keyAt : KE → DS → Option D
  | .c d, _ => some d
  | .n i, s => s[i]?
def kidIx : D → D → Option Nat
  | .tup xs, .int i => ixN xs.length i
  | .lst _ xs, .int i => ixN xs.length i
  | .frl xs, .int i => ixN xs.length i
  | .dK _ kvs, y => (keyD y).bind fun k => idxK kvs k
  | _, _ => none
def plIx (p : PL) (k : KE) : PL := fun s => (p s).bind fun dg => (keyAt k s).bind fun y => (kidIx dg.1 y).bind fun j => (kids dg.1).bind fun xs => (xs[j]?).bind fun c => match c with
  | .off => none
  | c => some (c, fun c' => dg.2 (setKid dg.1 j c'))
/-- the value v lies there -/
def Held (K : PySem.W.Frag) (F H : Hp) (σ : L2.St) (M : List Addr) (c : D) (g : D → DS) (v : V) : Prop := ∃ N R, Rp K F H c v N ∧ M.Perm (N ++ R) ∧
  ∀ {F' H' : Hp} {c' : D} {N' : List Addr}, (∀ a u, F a = some u → F' a = some u) → (∀ a ∈ R, H' a = H a) → Rp K F' H' c' v N' → ∃ M', M'.Perm (N' ++ R) ∧ SR K F' H' (g c') σ M'
structure PlOk (K : PySem.W.Frag) (p : PL) : Prop where
  run : ∀ {F H : Hp} {M : List Addr} {σ : L2.St} {ds : DS} {c : D} {g : D → DS}, Sub F H → SR K F H ds σ M → p ds = some (c, g) → c ≠ .off ∧ ∃ v, Held K F H σ M c g v
theorem plN_some {i : Nat} {s : DS} {c : D} {g : D → DS} (h : plN i s = some (c, g)) : s[i]? = some c ∧ c ≠ .off ∧ g = fun c => s.set i c := by
  unfold plN at h
  cases e : s[i]? with
  | none => rw [e] at h; cases h
  | some d =>
    rw [e] at h
    cases d <;> simp at h <;> obtain ⟨rfl, rfl⟩ := h <;> exact ⟨rfl, (fun z => nomatch z), rfl⟩
theorem plN_held {F H : Hp} {M : List Addr} {σ : L2.St} {ds : DS} {i : Nat} {c : D} {v : V} (s : SR K F H ds σ M) (e : ds[i]? = some c) (ho : c ≠ .off) (ev : σ[i]? = some (some v)) : Held K F H σ M c (fun c => ds.set i c) v := by
  obtain ⟨x, N, R, e2, r, p, put⟩ := s.take e
  rw [ev] at e2
  cases e2
  cases r with
  | any => exact absurd rfl ho
  | on r =>
    refine ⟨N, R, r, p, fun {F' H' c' N'} up k r' => ?_⟩
    obtain ⟨M', p', s'⟩ := put F' H' c' (some v) N' up k (.on r')
    rw [setσ ev] at s'
    exact ⟨M', p', s'⟩
theorem plN_ok {i : Nat} : PlOk K (plN i) := ⟨fun {F H M σ ds c g} w s h => by
  obtain ⟨e, ho, rfl⟩ := plN_some h
  obtain ⟨v, _, ev, _, _⟩ := s.at e ho
  exact ⟨ho, v, plN_held s e ho ev⟩⟩
theorem plIx_some {p : PL} {k : KE} {s : DS} {c : D} {g : D → DS} (h : plIx p k s = some (c, g)) : ∃ d g0 y j xs, p s = some (d, g0) ∧ keyAt k s = some y ∧ kidIx d y = some j ∧ kids d = some xs ∧ xs[j]? = some c ∧ c ≠ .off ∧ g = fun c' => g0 (setKid d j c') := by
  unfold plIx at h
  cases e1 : p s with
  | none => rw [e1] at h; cases h
  | some dg =>
    obtain ⟨d, g0⟩ := dg
    rw [e1] at h
    cases e2 : keyAt k s with
    | none => simp only [e2] at h; cases h
    | some y =>
      cases e3 : kidIx d y with
      | none => simp only [e2, e3, Option.bind] at h; cases h
      | some j =>
        cases e4 : kids d with
        | none => simp only [e2, e3, e4, Option.bind] at h; cases h
        | some xs =>
          cases e5 : xs[j]? with
          | none => simp only [e2, e3, e4, e5, Option.bind] at h; cases h
          | some c0 =>
            simp only [e2, e3, e4, e5, Option.bind] at h
            cases c0 <;> simp at h <;> obtain ⟨rfl, rfl⟩ := h <;> exact ⟨d, g0, y, j, xs, rfl, rfl, e3, e4, e5, (fun z => nomatch z), rfl⟩
theorem Held.kid {F H : Hp} (w : Sub F H) {σ : L2.St} {M : List Addr} {d c : D} {g : D → DS} {v : V} {xs : List D} {j : Nat} (h : Held K F H σ M d g v) (ek : kids d = some xs) (ej : xs[j]? = some c) :
    ∃ vs vc, vs[j]? = some vc ∧ (vs.length = xs.length ∧ KidsAt K H d v vs) ∧ Held K F H σ M c (fun c' => g (setKid d j c')) vc := by
  obtain ⟨N, R, r, p, put⟩ := h
  obtain ⟨vs, vc, N1, R1, e1, ka, r1, p1, put1⟩ := r.kid w ek ej
  refine ⟨vs, vc, e1, ka, N1, R1 ++ R, r1, (p.trans (p1.append_right R)).trans (by rw [List.append_assoc]), fun {F' H' c' N'} up k r' => ?_⟩
  obtain ⟨M1, p2, r2⟩ := put1 up (fun a h => k a (List.mem_append_left _ h)) r'
  obtain ⟨M2, p3, s3⟩ := put up (fun a h => k a (List.mem_append_right _ h)) r2
  exact ⟨M2, (p3.trans (p2.append_right R)).trans (by rw [List.append_assoc]), s3⟩
theorem plIx_ok {p : PL} {k : KE} (hp : PlOk K p) : PlOk K (plIx p k) := ⟨fun {F H M σ ds c g} w s h => by
  obtain ⟨d, g0, y, j, xs, e1, e2, e3, e4, e5, ho, rfl⟩ := plIx_some h
  obtain ⟨_, v, hv⟩ := hp.run w s e1
  obtain ⟨vs, vc, _, _, h'⟩ := hv.kid w e4 e5
  exact ⟨ho, vc, h'⟩⟩
end
end M

namespace M
open PySem PySem.Spec PyProof.Rows L2
theorem idxK_keys {κ α β : Type} [DecidableEq κ] : ∀ {xs : List (κ × α)} {ys : List (κ × β)}, xs.map (·.1) = ys.map (·.1) → ∀ k, idxK xs k = idxK ys k
  | [], [], _, _ => rfl
  | [], _ :: _, h, _ => by cases h
  | _ :: _, [], h, _ => by cases h
  | (a, x) :: xs, (b, y) :: ys, h, k => by
    simp only [List.map_cons, List.cons.injEq] at h
    obtain ⟨rfl, h⟩ := h
    unfold idxK
    rw [idxK_keys h k]
theorem idxK_get {κ α : Type} [DecidableEq κ] : ∀ {xs : List (κ × α)} {k : κ} {j : Nat} {v : α}, idxK xs k = some j → (xs.map (·.2))[j]? = some v → getK xs k = some v
  | [], _, _, _, h, _ => by cases h
  | (a, x) :: xs, k, j, v, h, e => by
    unfold idxK at h
    unfold getK
    rw [List.find?_cons]
    by_cases q : a = k
    · rw [if_pos q] at h
      cases h
      simp only [q, decide_true, Option.map_some]
      exact e
    · rw [if_neg q] at h
      cases e1 : idxK xs k with
      | none => rw [e1] at h; cases h
      | some j' =>
        rw [e1] at h
        cases h
        simp only [q, decide_false]
        exact idxK_get e1 (by simpa using e)
theorem kidIx_on {d y : D} {j : Nat} (h : kidIx d y = some j) : y ≠ .off := fun z => by
  subst z
  cases d <;> cases h
section
variable {X : Cx} {pos : Pos}
structure MPl (X : Cx) (e : Expr) (p : PL) : Prop where
  ok : PlOk X.K p
  run : ∀ {F H : Hp} {M : List Addr} {σ : L2.St} {ds : DS} {c : D} {g : D → DS}, Wd F H M → SR X.K F H ds σ M → p ds = some (c, g) → wE X e σ H (fun v H' => H' = H ∧ Held X.K F H σ M c g v)
structure MK (X : Cx) (e : Expr) (k : KE) : Prop where
  run : ∀ {F H : Hp} {M : List Addr} {σ : L2.St} {ds : DS} {y : D}, SR X.K F H ds σ M → keyAt k ds = some y → y ≠ .off → wE X e σ H (fun v H' => H' = H ∧ ∃ N, Rp X.K F H y v N)
theorem mk_int {i : Int} {j : Nat} : MK X (.Constant (.int i) j pos) (.c (.int i)) := ⟨fun s e _ => by cases e; exact to_wE pe_int ⟨rfl, [], .int i⟩⟩
theorem mk_str {i : Str} {j : Nat} : MK X (.Constant (.str i) j pos) (.c (.str i)) := ⟨fun s e _ => by cases e; exact to_wE pe_str ⟨rfl, [], .str i⟩⟩
theorem mk_neg {i : Int} {j : Nat} {p : Pos} : MK X (.UnaryOp .USub (.Constant (.int i) j p) pos) (.c (.int (-i))) := ⟨fun {F H M σ ds y} s e _ => by
  cases e
  refine to_wE (pe_un un_neg pe_int) ?_
  exact ⟨i, rfl, rfl, [], .int (-i)⟩⟩
theorem mk_name {i : Nat} {x : Str} (hN : X.N[i]? = some x := by rfl) (hv : Vis X.env.scope x := by first | exact Or.inl rfl | exact Or.inr (Or.inl rfl) | exact Or.inr (Or.inr rfl)) (hd : (x == ("__debug__" : Str)) = false := by decide)
    (hcd : (x == ("__classdict__" : Str)) = false := by decide) : MK X (.Name x pos) (.n i) := ⟨fun s e ho => by
  obtain ⟨v, N, ev, r, _⟩ := s.at e ho
  exact to_wE (pe_var hN hv hd hcd) ⟨v, ev, rfl, N, r⟩⟩
theorem mpl_name {i : Nat} {x : Str} (hN : X.N[i]? = some x := by rfl) (hv : Vis X.env.scope x := by first | exact Or.inl rfl | exact Or.inr (Or.inl rfl) | exact Or.inr (Or.inr rfl)) (hd : (x == ("__debug__" : Str)) = false := by decide)
    (hcd : (x == ("__classdict__" : Str)) = false := by decide) : MPl X (.Name x pos) (plN i) := ⟨plN_ok, fun w s h => by
  obtain ⟨e, ho, rfl⟩ := plN_some h
  obtain ⟨v, _, ev, _, _⟩ := s.at e ho
  exact to_wE (pe_var hN hv hd hcd) ⟨v, ev, rfl, plN_held s e ho ev⟩⟩
theorem mpl_ix {a b : Expr} {p : PL} {k : KE} (hu : X.A.units + 1 < cLine) (hp : MPl X a p) (hk : MK X b k) (hs : PlainIx b := by exact fun _ _ => rfl) : MPl X (.Subscript a b pos) (plIx p k) := ⟨plIx_ok hp.ok, fun {F H M σ ds c g} w s h => by
  obtain ⟨d, g0, y, j, xs, e1, e2, e3, e4, e5, ho, rfl⟩ := plIx_some h
  refine to_wE (pe_ix ixU (pe_w a) (pe_w b) hs) ?_
  refine (hp.run w s e1).imp fun v H1 ⟨eH, hv⟩ => ?_
  subst eH
  refine (hk.run s e2 (kidIx_on e3)).imp fun u H2 ⟨eH, N, ru⟩ => ?_
  subst eH
  obtain ⟨vs, vc, e6, ⟨hl, ka⟩, hc⟩ := hv.kid w.sub e4 e5
  have seq : ∀ {i : Int}, y = .int i → ixN xs.length i = some j → (∃ a, v = .ref a ∧ SqL X.K H2 a vs) → ∃ r, IxR X r ∧ r v u H2 fun v H' => H' = H2 ∧ Held X.K F H2 σ M c (fun c' => g0 (setKid d j c')) v := fun {i} ey ei ⟨a, ev, q⟩ => by
    subst ey
    obtain ⟨rfl, _⟩ := ru.of_int
    exact ⟨_, ix_list, a, vs, i, vc, ev, rfl, q, by unfold L2.atI; rw [hl, ei]; exact e6, rfl, hc⟩
  cases d with
  | tup ys =>
    cases e4
    cases y <;> first | cases e3 | skip
    obtain ⟨rfl, _⟩ := ru.of_int
    obtain ⟨a, ev, q⟩ := ka
    exact ⟨_, ix_tup, a, vs, _, vc, ev, rfl, q, by unfold L2.atI; rw [hl]; exact (congrArg (fun z => z.bind fun j => vs[j]?) (show ixN xs.length _ = some j from e3)).trans e6, rfl, hc⟩
  | lst o ys =>
    cases e4
    cases y <;> first | cases e3 | skip
    exact seq rfl e3 ka
  | frl ys =>
    cases e4
    cases y <;> first | cases e3 | skip
    exact seq rfl e3 ka
  | dK o kvs =>
    cases e4
    obtain ⟨a, hk', ev, q, ek, es⟩ := ka
    have e3' : ((keyD y).bind fun k => idxK kvs k) = some j := by cases y <;> exact e3
    cases eky : keyD y with
    | none => rw [eky] at e3'; cases e3'
    | some key =>
      rw [eky] at e3'
      have := keyD_v ru eky
      subst this
      refine ⟨_, ix_dict hu, a, vc, ev, .inl ⟨hk', key, q, rfl, ?_⟩, rfl, hc⟩
      exact (idxK_get ((idxK_keys ek key).trans e3') (by rw [es]; exact e6)).symm
  | dT o kvs => cases y <;> cases e3
  | ins o C fs => cases y <;> cases e3
  | _ => cases e4⟩

/-! ### what lies there, as a value -/
def wplv (p : PL) : DE := fun s Q => ∃ c g, p s = some (c, g) ∧ Q (fz c) (g (fz c))
theorem Held.icy {F H : Hp} {M : List Addr} (w : Wd F H M) {σ : L2.St} {c : D} {g : D → DS} {v : V} (h : Held X.K F H σ M c g v) : ∃ F' M', Wd F' H M' ∧ Tr F H M F' H M' ∧ Rp X.K F' H (fz c) v [] ∧ SR X.K F' H (g (fz c)) σ M' := by
  obtain ⟨N, R, r, p, put⟩ := h
  have w1 : Wd F H (N ++ R) := w.perm p.symm
  have wN : Wd F H N := w1.part (List.sublist_append_left _ _)
  have b := frame w1 (ice_tr wN.fr) (ice_wd wN)
  have r' : Rp X.K (ice F H N) H (fz c) v [] := r.ice wN.fr fun a h => h
  obtain ⟨M', p', s'⟩ := put (ice_up wN.fr) (fun _ _ => rfl) r'
  have pw : M'.Perm R := p'
  exact ⟨_, M', b.wd.perm pw, (b.tr.wide fun a h => p.mem_iff.mpr h).drop fun a h => pw.mem_iff.mp h, r', s'⟩
theorem me_plv {e : Expr} {p : PL} (h : MPl X e p) : ME X e (wplv p) := ⟨fun {F H M σ ds Q} w0 s0 q => by
  obtain ⟨c, g, e1, q⟩ := q
  refine (h.run w0 s0 e1).imp fun v H1 ⟨eH, hv⟩ => ?_
  subst eH
  obtain ⟨F', M', w', t', r', s'⟩ := hv.icy w0
  exact ⟨fz c, _, F', [], M', w', t', r', s', q⟩⟩
/-- a call by what lies there, which only looks at it -/
def wopP (o : OpL) (p : PL) : DE := fun s Q => ∃ c g, p s = some (c, g) ∧ o [c] fun z => Q z s
theorem Held.in {F H : Hp} {M : List Addr} {σ : L2.St} {c : D} {g : D → DS} {v : V} (h : Held X.K F H σ M c g v) : ∃ N, Rp X.K F H c v N ∧ ∀ a ∈ N, a ∈ M := by
  obtain ⟨N, R, r, p, _⟩ := h
  exact ⟨N, r, fun a q => p.mem_iff.mpr (List.mem_append_left _ q)⟩
theorem manyP {e : Expr} {o : OpL} {p : PL} (h : MPl X e p) {R : List V → Hp → VK → Prop} (ho : ∀ {F H : Hp} {M A : List Addr} {xs : List D} {vs : List V} {Q : D → Prop} {k : VK}, Wd F H M → RpL X.K F H xs vs A → (∀ a ∈ A, a ∈ M) → o xs Q → (∀ z H', Made X F H Q z H' → k z H') → R vs H k)
    (hs : starEach [e] X.env = (false, eval e X.env) :: starEach [] X.env) {F H : Hp} {M : List Addr} {σ : L2.St} {ds : DS} {Q : D → DS → Prop} (w0 : Wd F H M) (s0 : SR X.K F H ds σ M) (q : wopP o p ds Q) : wA X [e] σ H (fun vs H1 => R vs H1 (Res X σ F H M Q)) := by
  refine to_wA (pa_cons (pe_w e) pa_nil hs) ?_
  obtain ⟨c, g, e1, q⟩ := q
  refine (h.run w0 s0 e1).imp fun v H1 ⟨eH, hv⟩ => ?_
  subst eH
  obtain ⟨N, r, sub⟩ := hv.in
  have l : RpL X.K F H1 [c] [v] N := by
    have := RpL.cons r (RpL.nil (K := X.K) (F := F) (H := H1))
    rw [List.append_nil] at this
    exact this
  exact ho (M := [] ++ M) w0 l (fun a h => sub a h) q fun z H3 m => made_res (N := []) w0 w0 (Tr.refl _ _ _) s0 m
theorem me_callBP {id : String} {x : Str} {p : Pos} {e : Expr} {o : OpL} {pl : PL} (ho : CallM X (.builtin id) o) (hm : X.mg x = none) (ha : MPl X e pl) (hg : Gl X x := by rfl) (hv : bootBuiltins x = some (.builtin id) := by decide +kernel) (hn : x ≠ "__name__" := by decide) (hdb : (x == ("__debug__" : Str)) = false := by decide)
    (he : starEach [e] X.env = (false, eval e X.env) :: starEach [] X.env := by rfl) (hpl : (backTo pos (starEach [] X.env)).any (·.1) = false := by rfl) : ME X (.Call (.Name x p) [e] [] pos) (wopP o pl) :=
  ⟨fun w0 s0 q => to_wE (pe_callB (callU _) hg hm hv (pa_w _) hn hdb he hpl) (manyP ha (R := fun v H k => ∃ r, CallR X _ r ∧ r v H k) ho he w0 s0 q)⟩

/-! ### methods that change what they stand at -/
abbrev DM := D → List D → (D → D → Prop) → Prop
def tyD (T : String) : D → Prop
  | .lst _ _ => T = "list"
  | .frl _ => T = "list"
  | .dK true _ => T = "dict"
  | .dT true _ => T = "dict"
  | .str _ => T = "str"
  | .int _ => T = "int"
  | _ => False
theorem tyD_v {K : PySem.W.Frag} {F H : Hp} (w : Sub F H) {T : String} {d : D} {v : V} {M : List Addr} (r : Rp K F H d v M) (h : tyD T d) : tyV K T v H := by
  cases r with
  | str x => exact h
  | int i => exact h
  | lstF q l => exact .inl ⟨h, _, sub_sqL w (.inl (.inl q))⟩
  | lstO q l => exact .inl ⟨h, _, .inl (.inl q)⟩
  | frl q l => exact .inl ⟨h, _, sub_sqL w q⟩
  | dKO q e l => exact .inr (.inr (.inl ⟨h, .inl ⟨_, q⟩⟩))
  | dTO q e l => exact .inr (.inr (.inl ⟨h, .inr ⟨_, q⟩⟩))
  | _ => exact h.elim
def MtD (X : Cx) (id : String) (o : DM) : Prop := ∀ {F H : Hp} {A B : List Addr} {x : D} {xs : List D} {v : V} {vs : List V} {Q : D → D → Prop} {k : VK}, Wd F H (A ++ B) → Rp X.K F H x v A → RpL X.K F H xs vs B → o x xs Q →
  (∀ {z : V} {H' F' : Hp} {d x' : D} {N A' : List Addr}, Wd F' H' (N ++ A') → Tr F H (A ++ B) F' H' (N ++ A') → Rp X.K F' H' d z N → Rp X.K F' H' x' v A' → Q d x' → k z H') → ∃ r, MtR X id r ∧ r v vs H k
theorem mtU (id : String) : MtR X id (fun v vs H Q => ∃ r, MtR X id r ∧ r v vs H Q) := fun pins s σ H x xs v us Q I rx ry ⟨r, h, q⟩ => h pins s σ H x xs v us Q I rx ry q
def wmetN (i : Nat) (T : String) (o : DM) (args : DA) : DE := fun s Q => (∃ d, s[i]? = some d ∧ tyD T d) ∧ args s fun xs s1 => ∃ d, s1[i]? = some d ∧ d ≠ .off ∧ o d xs fun z d' => Q z (s1.set i d')
def wmetP (p : PL) (T : String) (o : DM) (args : DA) : DE := fun s Q => ∃ c g, p s = some (c, g) ∧ tyD T c ∧ ∀ v, args (g (.hole v)) fun xs s1 => ∃ h g', p s1 = some (h, g') ∧ h = .hole v ∧ o c xs fun z c' => Q z (g' c')
/-- the machine's step, where receiver and arguments lie apart -/
theorem met_core {id : String} {o : DM} (ho : MtD X id o) {F H : Hp} {A B R : List Addr} {σ : L2.St} {x : D} {xs : List D} {v : V} {vs : List V} {g : D → DS} {Q : D → DS → Prop} {k : VK} (w : Wd F H ((A ++ B) ++ R)) (rx : Rp X.K F H x v A) (rs : RpL X.K F H xs vs B)
    (put : ∀ {F' H' : Hp} {c' : D} {N' : List Addr}, (∀ a u, F a = some u → F' a = some u) → (∀ a ∈ R, H' a = H a) → Rp X.K F' H' c' v N' → ∃ M', M'.Perm (N' ++ R) ∧ SR X.K F' H' (g c') σ M') (q : o x xs fun z c' => Q z (g c'))
    (hk : ∀ {z : V} {H' F' : Hp} {d : D} {ds' : DS} {N M' : List Addr}, Wd F' H' (N ++ M') → Tr F H ((A ++ B) ++ R) F' H' (N ++ M') → Rp X.K F' H' d z N → SR X.K F' H' ds' σ M' → Q d ds' → k z H') : ∃ r, MtR X id r ∧ r v vs H k :=
  ho (w.part (List.sublist_append_left _ _)) rx rs q fun {z H' F' d x' N A'} w' t' rz rx' q' => by
    have b := frame w t' w'
    obtain ⟨M', p', s'⟩ := put t'.up b.same rx'
    have pp : (N ++ M').Perm ((N ++ A') ++ R) := by rw [List.append_assoc]; exact List.Perm.append_left N p'
    exact hk (b.wd.perm pp) (b.tr.drop fun a h => pp.mem_iff.mp h) rz s' q'
theorem me_metN {i : Nat} {x : Str} {name : Str} {T id : String} {o : DM} {e : Expr} {es : List Expr} {args : DA} {pos' apos cpos : Pos} (pa : PlainAttrs T) (sl : Slot T name id) (ty : typeOf (.builtin id) = pure (.type "method_descriptor")) (ho : MtD X id o) (ha : MEs X (e :: es) args)
    (hN : X.N[i]? = some x := by rfl) (hv : Vis X.env.scope x := by first | exact Or.inl rfl | exact Or.inr (Or.inl rfl) | exact Or.inr (Or.inr rfl)) (hd : (x == ("__debug__" : Str)) = false := by decide) (hcd : (x == ("__classdict__" : Str)) = false := by decide)
    (h1 : attributeBase (.Name x pos') name X.env (eval (.Name x pos') X.env) = eval (.Name x pos') X.env := by rfl)
    (h2 : ((((backTo cpos (starEach (e :: es) X.env)).all fun x => !x.fst) && (backToKw cpos (keywordEach [] X.env)).all fun x => x.fst.isSome) && decide (((e :: es).length + ([] : List Keyword).length + if ([] : List Keyword).isEmpty = true then 0 else 1) < 30)) = true := by rfl)
    (h3 : (apos.endLine == cpos.line) = true := by rfl) (he : starEach (e :: es) X.env = (false, eval e X.env) :: starEach es X.env := by rfl) (hpl : (backTo cpos (starEach es X.env)).any (·.1) = false := by rfl) :
    ME X (.Call (.Attribute (.Name x pos') name apos) (e :: es) [] cpos) (wmetN i T o args) := ⟨fun {F H M σ ds Q} w0 s0 q => by
  obtain ⟨⟨d, e1, t1⟩, q⟩ := q
  have ho1 : d ≠ .off := fun z => by subst z; exact t1
  obtain ⟨v, N0, ev, r0, _⟩ := s0.at e1 ho1
  refine to_wE (pe_bm pa sl ty (mtU id) (pe_var hN hv hd hcd) (pa_w _) h1 h2 h3 he hpl) ⟨v, ev, tyD_v w0.sub r0 t1, ?_⟩
  refine (ha.run w0 s0 (Q := fun xs s1 => _) q).imp fun vs H1 ⟨xs, ds1, F1, N, M1, hl, w1, t1, rs, s1, d', e2, ho2, q2⟩ => ?_
  obtain ⟨A, R, ra, p, put⟩ := plN_held s1 e2 ho2 ev
  have pp : (N ++ M1).Perm ((A ++ N) ++ R) := by rw [List.append_assoc]; exact (List.Perm.append_left N p).trans perm_in
  refine met_core ho (w1.perm pp.symm) ra rs put q2 fun {z H' F' d ds' N' M'} w' t' rz s' q' => ?_
  exact ⟨d, ds', F', N', M', w', t1.trans w0 w1 (t'.wide fun a h => pp.mem_iff.mpr h), rz, s', q'⟩⟩
theorem Held.hole {K : PySem.W.Frag} {F H : Hp} {M : List Addr} (w : Wd F H M) {σ : L2.St} {c : D} {g : D → DS} {v : V} (h : Held K F H σ M c g v) : ∃ N M', Rp K F H c v N ∧ SR K F H (g (.hole v)) σ M' ∧ M.Perm (N ++ M') := by
  obtain ⟨N, R, r, p, put⟩ := h
  obtain ⟨M', p', s'⟩ := put (fun _ _ h => h) (fun _ _ => rfl) (.hole v)
  have pw : M'.Perm R := p'
  exact ⟨N, M', r, s', p.trans (List.Perm.append_left N pw.symm)⟩
theorem rp_hole {K : PySem.W.Frag} {F H : Hp} {v v' : V} {N : List Addr} (h : Rp K F H (.hole v) v' N) : v' = v ∧ N = [] := by cases h; exact ⟨rfl, rfl⟩
theorem me_metP {p : PL} {name : Str} {T id : String} {o : DM} {eo e : Expr} {es : List Expr} {args : DA} {apos cpos : Pos} (hp : MPl X eo p) (pa : PlainAttrs T) (sl : Slot T name id) (ty : typeOf (.builtin id) = pure (.type "method_descriptor")) (ho : MtD X id o) (ha : MEs X (e :: es) args)
    (h1 : attributeBase eo name X.env (eval eo X.env) = eval eo X.env := by rfl)
    (h2 : ((((backTo cpos (starEach (e :: es) X.env)).all fun x => !x.fst) && (backToKw cpos (keywordEach [] X.env)).all fun x => x.fst.isSome) && decide (((e :: es).length + ([] : List Keyword).length + if ([] : List Keyword).isEmpty = true then 0 else 1) < 30)) = true := by rfl)
    (h3 : (apos.endLine == cpos.line) = true := by rfl) (he : starEach (e :: es) X.env = (false, eval e X.env) :: starEach es X.env := by rfl) (hpl : (backTo cpos (starEach es X.env)).any (·.1) = false := by rfl) :
    ME X (.Call (.Attribute eo name apos) (e :: es) [] cpos) (wmetP p T o args) := ⟨fun {F H M σ ds Q} w0 s0 q => by
  obtain ⟨c, g, e1, t1, q⟩ := q
  refine to_wE (pe_bm pa sl ty (mtU id) (pe_w eo) (pa_w _) h1 h2 h3 he hpl) ?_
  refine (hp.run w0 s0 e1).imp fun v H0 ⟨eH, hv⟩ => ?_
  subst eH
  obtain ⟨A, M0, ra, s0', p0⟩ := hv.hole w0
  refine ⟨tyD_v w0.sub ra t1, ?_⟩
  have w00 : Wd F H0 (M0 ++ A) := w0.perm (p0.trans List.perm_append_comm).symm
  refine (ha.run (w00.part (List.sublist_append_left _ _)) s0' (Q := fun xs s1 => _) (q v)).imp fun vs H1 ⟨xs, ds1, F1, N, M1, hl, w1, t1, rs, s1, h, g', e2, eh, q2⟩ => ?_
  subst eh
  have b := frame w00 t1 w1
  have ra1 := b.rp ra fun a h => h
  obtain ⟨_, v', N', R, rh, p', put⟩ := hp.ok.run w1.sub s1 e2
  obtain ⟨rfl, rfl⟩ := rp_hole rh
  have pR : M1.Perm R := p'
  have pp : ((N ++ M1) ++ A).Perm ((A ++ N) ++ R) := by
    rw [List.append_assoc A]
    exact List.perm_append_comm.trans (List.Perm.append_left A (List.Perm.append_left N pR))
  refine met_core ho (b.wd.perm pp.symm) ra1 rs put q2 fun {z H' F' d ds' N' M'} w' t' rz s' q' => ?_
  have t01 : Tr F H0 M F1 H1 ((N ++ M1) ++ A) := b.tr.wide fun a h => p0.mem_iff.mpr ((List.perm_append_comm).mem_iff.mp h)
  exact ⟨d, ds', F', N', M', w', t01.trans w0 b.wd (t'.wide fun a h => pp.mem_iff.mpr h), rz, s', q'⟩⟩
end
end M

namespace M
open PySem PySem.Spec PyProof.Rows L2
section
variable {X : Cx} {pos : Pos}
/-! ### methods without arguments -/
theorem me_metN0 {i : Nat} {x : Str} {name : Str} {T id : String} {o : DM} {pos' apos cpos : Pos} (pa : PlainAttrs T) (sl : Slot T name id) (ty : typeOf (.builtin id) = pure (.type "method_descriptor")) (ho : MtD X id o)
    (hN : X.N[i]? = some x := by rfl) (hv : Vis X.env.scope x := by first | exact Or.inl rfl | exact Or.inr (Or.inl rfl) | exact Or.inr (Or.inr rfl)) (hd : (x == ("__debug__" : Str)) = false := by decide) (hcd : (x == ("__classdict__" : Str)) = false := by decide)
    (h1 : attributeBase (.Name x pos') name X.env (eval (.Name x pos') X.env) = eval (.Name x pos') X.env := by rfl)
    (h3 : (apos.endLine == cpos.line) = true := by rfl) : ME X (.Call (.Attribute (.Name x pos') name apos) [] [] cpos) (wmetN i T o wnil) := ⟨fun {F H M σ ds Q} w0 s0 q => by
  obtain ⟨⟨d, e1, t1⟩, d', e2, ho2, q2⟩ := q
  have ho1 : d ≠ .off := fun z => by subst z; exact t1
  obtain ⟨v, N0, ev, r0, _⟩ := s0.at e1 ho1
  refine to_wE (pe_bm0 pa sl ty (mtU id) (pe_var hN hv hd hcd) h1 h3) ⟨v, ev, tyD_v w0.sub r0 t1, ?_⟩
  obtain ⟨A, R, ra, p, put⟩ := plN_held s0 e2 ho2 ev
  have pp : M.Perm ((A ++ []) ++ R) := by rw [List.append_nil]; exact p
  refine met_core ho (w0.perm pp.symm) ra .nil put q2 fun {z H' F' d ds' N' M'} w' t' rz s' q' => ?_
  exact ⟨d, ds', F', N', M', w', t'.wide fun a h => pp.mem_iff.mpr h, rz, s', q'⟩⟩
theorem me_metP0 {p : PL} {name : Str} {T id : String} {o : DM} {eo : Expr} {apos cpos : Pos} (hp : MPl X eo p) (pa : PlainAttrs T) (sl : Slot T name id) (ty : typeOf (.builtin id) = pure (.type "method_descriptor")) (ho : MtD X id o)
    (h1 : attributeBase eo name X.env (eval eo X.env) = eval eo X.env := by rfl)
    (h3 : (apos.endLine == cpos.line) = true := by rfl) : ME X (.Call (.Attribute eo name apos) [] [] cpos) (wmetP p T o wnil) := ⟨fun {F H M σ ds Q} w0 s0 q => by
  obtain ⟨c, g, e1, t1, q⟩ := q
  refine to_wE (pe_bm0 pa sl ty (mtU id) (pe_w eo) h1 h3) ?_
  refine (hp.run w0 s0 e1).imp fun v H0 ⟨eH, hv⟩ => ?_
  subst eH
  obtain ⟨A, M0, ra, s0', p0⟩ := hv.hole w0
  refine ⟨tyD_v w0.sub ra t1, ?_⟩
  obtain ⟨h, g', e2, eh, q2⟩ := q v
  subst eh
  obtain ⟨_, v', N', R, rh, p', put⟩ := hp.ok.run w0.sub s0' e2
  obtain ⟨rfl, rfl⟩ := rp_hole rh
  have pR : M0.Perm R := p'
  have pp : M.Perm ((A ++ []) ++ R) := by rw [List.append_nil]; exact p0.trans (List.Perm.append_left A pR)
  refine met_core ho (w0.perm pp.symm) ra .nil put q2 fun {z H' F' d ds' N' M'} w' t' rz s' q' => ?_
  exact ⟨d, ds', F', N', M', w', t'.wide fun a h => pp.mem_iff.mpr h, rz, s', q'⟩⟩

/-! ### the methods of lists -/
theorem Rp.ownL {K : PySem.W.Frag} {F H : Hp} {xs : List D} {v : V} {M : List Addr} (h : Rp K F H (.lst true xs) v M) : ∃ a vs M', v = .ref a ∧ H a = some (.lst vs) ∧ RpL K F H xs vs M' ∧ M = a :: M' := by
  cases h with
  | lstO q l => exact ⟨_, _, _, rfl, q, l, rfl⟩
theorem RpL.app {K : PySem.W.Frag} {F H : Hp} : ∀ {ds ds' : List D} {vs vs' : List V} {M N : List Addr}, RpL K F H ds vs M → RpL K F H ds' vs' N → RpL K F H (ds ++ ds') (vs ++ vs') (M ++ N)
  | _, _, _, _, _, _, .nil, l => l
  | _, _, _, _, _, _, .cons r l, l' => by
    rw [List.append_assoc]
    exact .cons r (RpL.app l l')
theorem not_own {F H : Hp} {a : Addr} {M : List Addr} (w : Wd F H (a :: M)) : ∀ b ∈ M, b ≠ a := fun b h z => by
  subst z
  exact (List.nodup_cons.mp w.nd).1 h
def d_append : DM := fun x xs Q => match x, xs with
  | .lst true ys, [y] => ys.length < sizeLine ∧ Q .non (.lst true (ys ++ [y]))
  | _, _ => False
theorem md_append : MtD X "list.append" d_append := by
  intro F H A B x xs v vs Q k w rx rs o hk
  match x, xs, o with
  | .lst true ys, [y], ⟨hl, q⟩ =>
    obtain ⟨a, us, A', rfl, ea, l, rfl⟩ := rx.ownL
    obtain ⟨u, rfl, ru⟩ := rs.inv1
    obtain ⟨w2, t2, e2⟩ := set_own (o := .lst (us ++ [u])) w (p := a) List.mem_cons_self
    have ne := not_own w
    refine ⟨_, mt_append, a, us, u, rfl, rfl, ea, by rw [← l.len]; exact hl, ?_⟩
    exact hk (N := []) w2 t2 .non (.lstO upd_same (RpL.snoc (l.mono (fun _ _ h => h) fun b h => e2 b (ne b (List.mem_append_left _ h))) (ru.mono (fun _ _ h => h) fun b h => e2 b (ne b (List.mem_append_right _ h))))) q
def d_popAt : DM := fun x xs Q => match x, xs with
  | .lst true ys, [.int i] => ∃ k y, -(2 ^ 63) ≤ i ∧ i < 2 ^ 63 ∧ seqIndex? i ys.length = some k ∧ ys[k]? = some y ∧ Q y (.lst true (ys.eraseIdx k))
  | _, _ => False
theorem pop_core {F H : Hp} {a : Addr} {A' : List Addr} {us : List V} {ys : List D} {j : Nat} {y : D} (w : Wd F H (a :: A')) (l : RpL X.K F H ys us A') (e : ys[j]? = some y) :
    ∃ z N R, us[j]? = some z ∧ Wd F (upd H a (.lst (us.eraseIdx j))) (N ++ (a :: R)) ∧ Tr F H (a :: A') F (upd H a (.lst (us.eraseIdx j))) (N ++ (a :: R)) ∧ Rp X.K F (upd H a (.lst (us.eraseIdx j))) y z N ∧ Rp X.K F (upd H a (.lst (us.eraseIdx j))) (.lst true (ys.eraseIdx j)) (.ref a) (a :: R) := by
  obtain ⟨z, N, R, e1, r1, p1, _, er⟩ := l.take e
  obtain ⟨w2, t2, e2⟩ := set_own (o := .lst (us.eraseIdx j)) w (p := a) List.mem_cons_self
  have ne := not_own w
  have pp : (N ++ (a :: R)).Perm (a :: A') := List.perm_middle.trans (List.Perm.cons a p1.symm)
  refine ⟨z, N, R, e1, w2.perm pp, t2.drop fun b h => pp.mem_iff.mp h, r1.mono (fun _ _ h => h) fun b h => e2 b (ne b (p1.mem_iff.mpr (List.mem_append_left _ h))), .lstO upd_same (er (fun _ _ h => h) fun b h => e2 b (ne b (p1.mem_iff.mpr (List.mem_append_right _ h))))⟩
theorem md_popAt : MtD X "list.pop" d_popAt := by
  intro F H A B x xs v vs Q k w rx rs o hk
  match x, xs, o with
  | .lst true ys, [.int i], ⟨j, y, b1, b2, e0, e, q⟩ =>
    obtain ⟨a, us, A', rfl, ea, l, rfl⟩ := rx.ownL
    obtain ⟨u, rfl, ru⟩ := rs.inv1
    obtain ⟨rfl, rfl⟩ := ru.of_int
    rw [List.append_nil] at w hk
    obtain ⟨z, N, R, e1, w2, t2, r2, r3⟩ := pop_core w l e
    exact ⟨_, mt_popAt, a, us, i, j, z, rfl, rfl, ea, b1, b2, by rw [← l.len]; exact e0, e1, hk w2 t2 r2 r3 q⟩
def d_pop : DM := fun x xs Q => match x, xs with
  | .lst true ys, [] => ∃ y, ys[ys.length - 1]? = some y ∧ Q y (.lst true ys.dropLast)
  | _, _ => False
theorem eraseLast {α : Type} (xs : List α) : xs.eraseIdx (xs.length - 1) = xs.dropLast := by
  rw [List.eraseIdx_eq_take_drop_succ, List.dropLast_eq_take]
  cases xs with
  | nil => rfl
  | cons x r =>
    rw [List.length_cons, Nat.add_sub_cancel, List.drop_of_length_le (by rw [List.length_cons]; omega), List.append_nil]
theorem md_pop : MtD X "list.pop" d_pop := by
  intro F H A B x xs v vs Q k w rx rs o hk
  match x, xs, o with
  | .lst true ys, [], ⟨y, e, q⟩ =>
    obtain ⟨a, us, A', rfl, ea, l, rfl⟩ := rx.ownL
    cases rs
    rw [List.append_nil] at w hk
    obtain ⟨z, N, R, e1, w2, t2, r2, r3⟩ := pop_core w l e
    rw [l.len, eraseLast] at w2 t2 r2 r3
    rw [← l.len, eraseLast] at r3
    exact ⟨_, mt_pop, a, us, z, rfl, rfl, ea, by rw [← l.len]; exact e1, hk w2 t2 r2 r3 q⟩
def d_extend : DM := fun x xs Q => match x, xs with
  | .lst true ys, [.lst _ zs] => ys.length + zs.length ≤ sizeLine ∧ Q .non (.lst true (ys ++ zs))
  | _, _ => False
theorem md_extend : MtD X "list.extend" d_extend := by
  intro F H A B x xs v vs Q k w rx rs o hk
  match x, xs, o with
  | .lst true ys, [.lst ob zs], ⟨hl, q⟩ =>
    obtain ⟨a, us, A', rfl, ea, l, rfl⟩ := rx.ownL
    obtain ⟨u, rfl, ru⟩ := rs.inv1
    obtain ⟨b, ws, B', rfl, eb, lb, sb⟩ : ∃ b ws B', u = .ref b ∧ H b = some (.lst ws) ∧ RpL X.K F H zs ws B' ∧ B'.Sublist B := by
      cases ru with
      | lstF q l => exact ⟨_, _, _, rfl, (w.sub _ _ q).elim id fun z => z.1.elim, l, List.Sublist.refl _⟩
      | lstO q l => exact ⟨_, _, _, rfl, q, l, List.sublist_cons_self _ _⟩
    have sub : ((a :: A') ++ B').Sublist ((a :: A') ++ B) := List.Sublist.append_left sb _
    have w' := w.part sub
    obtain ⟨w2, t2, e2⟩ := set_own (o := .lst (us ++ ws)) w' (p := a) List.mem_cons_self
    have ne := not_own w'
    refine ⟨_, mt_extend, a, b, us, ws, rfl, rfl, ea, eb, by rw [← l.len, ← lb.len]; exact hl, ?_⟩
    exact hk (N := []) w2 (t2.wide fun c h => sub.subset h) .non (.lstO upd_same (RpL.app (l.mono (fun _ _ h => h) fun b h => e2 b (ne b (List.mem_append_left _ h))) (lb.mono (fun _ _ h => h) fun b h => e2 b (ne b (List.mem_append_right _ h))))) q
def d_clear : DM := fun x xs Q => match x, xs with
  | .lst true _, [] => Q .non (.lst true [])
  | _, _ => False
theorem md_clear : MtD X "list.clear" d_clear := by
  intro F H A B x xs v vs Q k w rx rs o hk
  match x, xs, o with
  | .lst true ys, [], q =>
    obtain ⟨a, us, A', rfl, ea, l, rfl⟩ := rx.ownL
    cases rs
    rw [List.append_nil] at w hk
    have sub : [a].Sublist (a :: A') := List.Sublist.cons₂ a (List.nil_sublist _)
    obtain ⟨w2, t2, e2⟩ := set_own (o := .lst []) (w.part sub) (p := a) List.mem_cons_self
    exact ⟨_, mt_clear, a, us, rfl, rfl, ea, hk (N := []) w2 (t2.wide fun c h => sub.subset h) .non (.lstO upd_same .nil) q⟩

/-! ### stores -/
abbrev DSet := D → D → D → (D → Prop) → Prop
def SetD (X : Cx) (o : DSet) : Prop := ∀ {F H : Hp} {A B C : List Addr} {x y c : D} {v u w : V} {Q : D → Prop} {k : Hp → Prop}, Wd F H (C ++ A) → Rp X.K F H x v A → Rp X.K F H y u B → Rp X.K F H c w C → o x y c Q →
  (∀ {H' F' : Hp} {x' : D} {A' : List Addr}, Wd F' H' A' → Tr F H (C ++ A) F' H' A' → Rp X.K F' H' x' v A' → Q x' → k H') → ∃ t, PSet X t ∧ t v u w H k
theorem setU : PSet X (fun v u w H Q => ∃ t, PSet X t ∧ t v u w H Q) := fun pins s σ H o i v ov iv u Q I r1 r2 r3 ⟨t, h, q⟩ => h pins s σ H o i v ov iv u Q I r1 r2 r3 q
def putD {κ α : Type} [DecidableEq κ] (kvs : List (κ × α)) (k : κ) (v : α) : List (κ × α) := match idxK kvs k with
  | some j => setV kvs j v
  | none => kvs ++ [(k, v)]
theorem idxK_none {κ α : Type} [DecidableEq κ] : ∀ {xs : List (κ × α)} {k : κ}, idxK xs k = none → (xs.any fun kv => decide (kv.1 = k)) = false
  | [], _, _ => rfl
  | (a, x) :: xs, k, h => by
    unfold idxK at h
    by_cases q : a = k
    · rw [if_pos q] at h; cases h
    · rw [if_neg q] at h
      rw [List.any_cons, idxK_none (by cases e : idxK xs k with | none => rfl | some j => rw [e] at h; cases h)]
      simp [q]
theorem idxK_mem {κ α : Type} [DecidableEq κ] : ∀ {xs : List (κ × α)} {k : κ} {j : Nat}, idxK xs k = some j → (xs.any fun kv => decide (kv.1 = k)) = true
  | [], _, _, h => by cases h
  | (a, x) :: xs, k, j, h => by
    unfold idxK at h
    rw [List.any_cons]
    by_cases q : a = k
    · simp [q]
    · rw [if_neg q] at h
      cases e : idxK xs k with
      | none => rw [e] at h; cases h
      | some j' => rw [idxK_mem e, Bool.or_true]
theorem putK_set {κ : Type} [DecidableEq κ] : ∀ {xs : List (κ × V)} {k : κ} {j : Nat} {v : V}, (xs.map (·.1)).Nodup → idxK xs k = some j → (xs.map fun kv => if kv.1 = k then (kv.1, v) else kv) = setV xs j v
  | [], _, _, _, _, h => by cases h
  | (a, x) :: xs, k, j, v, nd, h => by
    unfold idxK at h
    rw [List.map_cons, List.nodup_cons] at nd
    by_cases q : a = k
    · rw [if_pos q] at h
      cases h
      subst q
      rw [List.map_cons, setV]
      simp only [if_true]
      congr 1
      conv => rhs; rw [← List.map_id xs]
      apply List.map_congr_left
      intro p hp
      have h1 : p.1 ∈ xs.map (·.1) := List.mem_map_of_mem (f := (·.1)) hp
      have : p.1 ≠ a := fun z => nd.1 (z ▸ h1)
      simp [this]
    · rw [if_neg q] at h
      cases e : idxK xs k with
      | none => rw [e] at h; cases h
      | some j' =>
        rw [e] at h
        cases h
        rw [List.map_cons, setV, putK_set nd.2 e]
        simp [q]
theorem idxK_lt {κ α : Type} [DecidableEq κ] : ∀ {xs : List (κ × α)} {k : κ} {j : Nat}, idxK xs k = some j → j < xs.length
  | [], _, _, h => by cases h
  | (a, x) :: xs, k, j, h => by
    unfold idxK at h
    by_cases q : a = k
    · rw [if_pos q] at h; cases h; exact Nat.zero_lt_succ _
    · rw [if_neg q] at h
      cases e : idxK xs k with
      | none => rw [e] at h; cases h
      | some j' =>
        rw [e] at h
        cases h
        exact Nat.succ_lt_succ (idxK_lt e)
/-- the machine's dict with a new value is the data's -/
theorem RpL.putK {κ : Type} [DecidableEq κ] {K : PySem.W.Frag} {F H : Hp} {kvs : List (κ × D)} {hk : List (κ × V)} {M C : List Addr} {k : κ} {c : D} {w : V} (nd : (kvs.map (·.1)).Nodup) (e : hk.map (·.1) = kvs.map (·.1)) (l : RpL K F H (kvs.map (·.2)) (hk.map (·.2)) M) (r : Rp K F H c w C) :
    ∃ M', (putK hk k w).map (·.1) = (putD kvs k c).map (·.1) ∧ RpL K F H ((putD kvs k c).map (·.2)) ((putK hk k w).map (·.2)) M' ∧ ∃ S, (M' ++ S).Perm (C ++ M) := by
  have ei := idxK_keys e k
  unfold L2.putK putD
  cases h : idxK kvs k with
  | none =>
    rw [h] at ei
    rw [idxK_none ei]
    simp only [Bool.false_eq_true, if_false]
    refine ⟨M ++ C, by rw [List.map_append, List.map_append, e]; rfl, ?_, [], by rw [List.append_nil]; exact List.perm_append_comm⟩
    rw [List.map_append, List.map_append]
    exact RpL.snoc l r
  | some j =>
    rw [h] at ei
    rw [idxK_mem ei]
    simp only [if_true]
    rw [putK_set (by rw [e]; exact nd) ei]
    have hj := idxK_lt h
    obtain ⟨v0, N, R, e1, r1, p1, put, _⟩ := l.take (j := j) (d := (kvs.map (·.2))[j]'(by rw [List.length_map]; exact hj)) (List.getElem?_eq_getElem _)
    obtain ⟨M', p', l'⟩ := put (fun _ _ h => h) (fun _ _ => rfl) r
    refine ⟨M', by rw [setV_1, setV_1, e], by rw [setV_2, setV_2]; exact l', N, ?_⟩
    have p2 : (M' ++ N).Perm ((C ++ R) ++ N) := List.Perm.append_right N p'
    refine p2.trans ?_
    rw [List.append_assoc]
    exact List.Perm.append_left C (List.perm_append_comm.trans p1.symm)
def d_set : DSet := fun x y c Q => match x with
  | .lst true xs => ∃ i j, y = .int i ∧ ixN xs.length i = some j ∧ Q (.lst true (xs.set j c))
  | .dK true kvs => ∃ k, keyD y = some k ∧ kvs.length < sizeLine ∧ (kvs.map (·.1)).Nodup ∧ Q (.dK true (putD kvs k c))
  | _ => False
theorem set_dict (hu : X.A.units + 1 < cLine) : PSet X (fun o i v H Q => ∃ a H', o = .ref a ∧ DPut H a i v H' ∧ Q H') := by
  intro pins s σ H o i v ov iv u Q I r1 r2 r3 ⟨a, H', ea, hp, q⟩
  subst ea
  cases r1
  exact d_setItem hu I hp r2 r3 fun s' I' => ⟨H', I', q⟩
theorem sd_set (hu : X.A.units + 1 < cLine) : SetD X d_set := by
  intro F H A B C x y c v u z Q k w rx ry rc o hk
  match x, o with
  | .lst true xs, ⟨i, j, ey, ej, q⟩ =>
    subst ey
    obtain ⟨a, us, A', rfl, ea, l, rfl⟩ := rx.ownL
    obtain ⟨rfl, rfl⟩ := ry.of_int
    have hj : j < xs.length := by
      unfold ixN at ej
      split at ej
      · split at ej <;> cases ej; omega
      · split at ej <;> cases ej; omega
    obtain ⟨v0, N, R, e1, r1, p1, put, _⟩ := l.take (j := j) (List.getElem?_eq_getElem hj)
    have wp : Wd F H (a :: (C ++ (N ++ R))) := w.perm ((List.Perm.cons a (List.Perm.append_left C p1.symm)).trans List.perm_middle.symm)
    have sub : (a :: (C ++ R)).Sublist (a :: (C ++ (N ++ R))) := List.Sublist.cons₂ a (List.Sublist.append_left (List.sublist_append_right _ _) _)
    have w' := wp.part sub
    obtain ⟨w2, t2, e2⟩ := set_own (o := .lst (us.set j z)) w' (p := a) List.mem_cons_self
    have ne := not_own w'
    obtain ⟨M', p', l'⟩ := put (F' := F) (H' := upd H a (.lst (us.set j z))) (fun _ _ h => h) (fun b h => e2 b (ne b (List.mem_append_right _ h))) (rc.mono (fun _ _ h => h) fun b h => e2 b (ne b (List.mem_append_left _ h)))
    have pq : (a :: M').Perm (a :: (C ++ R)) := List.Perm.cons a p'
    refine ⟨_, set_list, a, us, i, j, rfl, rfl, ea, by rw [← l.len]; exact ej, hk (A' := a :: M') (w2.perm pq) ?_ (.lstO upd_same l') q⟩
    refine (t2.wide fun b h => ?_).drop fun b h => pq.mem_iff.mp h
    have h1 := sub.subset h
    exact (((List.Perm.cons a (List.Perm.append_left C p1.symm)).trans List.perm_middle.symm).mem_iff).mp h1
  | .dK true kvs, ⟨key, ek, hl, nd, q⟩ =>
    cases rx with
    | @dKO a hk' _ A' ea ekeys l =>
    have := keyD_v ry ek
    subst this
    obtain ⟨M', e1, l', S, pS⟩ := RpL.putK (k := key) nd ekeys l rc
    have pq : ((a :: M') ++ S).Perm (C ++ (a :: A')) := (List.Perm.cons a pS).trans List.perm_middle.symm
    have sub : (a :: M').Sublist ((a :: M') ++ S) := List.sublist_append_left _ _
    have w' := (w.perm pq).part sub
    obtain ⟨w2, t2, e2⟩ := set_own (o := .dK (putK hk' key z)) w' (p := a) List.mem_cons_self
    have ne := not_own w'
    refine ⟨_, set_dict hu, a, _, rfl, .inl ⟨hk', key, ea, rfl, ?_, rfl⟩, hk (A' := a :: M') w2 (t2.wide fun b h => pq.mem_iff.mp (sub.subset h)) (.dKO upd_same e1 (l'.mono (fun _ _ h => h) fun b h => e2 b (ne b h))) q⟩
    have := congrArg List.length ekeys
    rw [List.length_map, List.length_map] at this
    omega
end
end M

namespace M
open PySem PySem.Spec PyProof.Rows L2
section
variable {X : Cx} {pos : Pos} {ro : List Nat}
/-! ### stores as targets -/
def gixP (p : PL) (k : KE) (o : DSet) : DG := fun d s Q => ∃ c g y, p s = some (c, g) ∧ keyAt k s = some y ∧ on y = true ∧ o c y d fun c' => Q (g c')
theorem set_core {o : DSet} (ho : SetD X o) {F H : Hp} {A B C M R : List Addr} {σ : L2.St} {x y c : D} {v u z : V} {g : D → DS} {Q : DS → Prop} {k : Hp → Prop} (w : Wd F H (C ++ M)) (p : M.Perm (A ++ R)) (rx : Rp X.K F H x v A) (ry : Rp X.K F H y u B) (rc : Rp X.K F H c z C)
    (put : ∀ {F' H' : Hp} {c' : D} {N' : List Addr}, (∀ a u, F a = some u → F' a = some u) → (∀ a ∈ R, H' a = H a) → Rp X.K F' H' c' v N' → ∃ M', M'.Perm (N' ++ R) ∧ SR X.K F' H' (g c') σ M') (q : o x y c fun c' => Q (g c'))
    (hk : ∀ {H' F' : Hp} {ds' : DS} {M' : List Addr}, Wd F' H' M' → Tr F H (C ++ M) F' H' M' → SR X.K F' H' ds' σ M' → Q ds' → k H') : ∃ t, PSet X t ∧ t v u z H k := by
  have pp : (C ++ M).Perm ((C ++ A) ++ R) := by rw [List.append_assoc]; exact List.Perm.append_left C p
  have w1 := w.perm pp.symm
  refine ho (w1.part (List.sublist_append_left _ _)) rx ry rc q fun {H' F' x' A'} w' t' rx' q' => ?_
  have b := frame w1 t' w'
  obtain ⟨M', p', s'⟩ := put t'.up b.same rx'
  exact hk (b.wd.perm p') ((b.tr.wide fun a h => pp.mem_iff.mpr h).drop fun a h => p'.mem_iff.mp h) s' q'
theorem mg_ixP {e b : Expr} {p : PL} {k : KE} {o : DSet} (ho : SetD X o) (hp : MPl X e p) (hk : MK X b k)
    (ha : ∀ (v : Value), assign (e.Subscript b pos) X.env v = (do
      let ov ← holding [v] (eval e X.env)
      let iv ← holding [v, ov] (eval b X.env)
      standAt pos
      holding [v, ov, iv] (setItem ov iv v)
      release [v, ov, iv] []) := by intro _; rfl) : MG X ro (.Subscript e b pos) (gixP p k o) := ⟨fun {F H M N σ ds d v Q} w0 r0 s0 q => by
  obtain ⟨c, g, y, e1, e2, oy, q⟩ := q
  have wM : Wd F H M := w0.part (List.sublist_append_right _ _)
  refine to_wG (pg_sub (pe_w e) (pe_w b) setU ha) ?_
  refine (hp.run wM s0 e1).imp fun vc H1 ⟨eH, hv⟩ => ?_
  subst eH
  refine (hk.run s0 e2 (on_ne oy)).imp fun u H2 ⟨eH, B, ru⟩ => ?_
  subst eH
  obtain ⟨A, R, rx, p', put⟩ := hv
  exact set_core ho w0 p' rx ru r0 put q fun {H' F' ds' M'} w' t' s' q' => ⟨ds', F', M', w', t', s', Pin.refl ro σ, q'⟩⟩
/-- a name's part by any key -/
def gixN (i : Nat) (kop : Opd) (o : DSet) : DG := fun d s Q => onAt s i = true ∧ evO kop s fun t s1 => ∃ x y, s1[i]? = some x ∧ on x = true ∧ t.at s1 = some y ∧ on y = true ∧ o x y d fun x' => Q (s1.set i x')
theorem mg_ixN {i : Nat} {x : Str} {b : Expr} {pos' : Pos} {ob : Opd} {o : DSet} (ho : SetD X o) (hb : MO X b ob) (hN : X.N[i]? = some x := by rfl) (hv : Vis X.env.scope x := by first | exact Or.inl rfl | exact Or.inr (Or.inl rfl) | exact Or.inr (Or.inr rfl)) (hd : (x == ("__debug__" : Str)) = false := by decide)
    (hcd : (x == ("__classdict__" : Str)) = false := by decide)
    (ha : ∀ (v : Value), assign ((Expr.Name x pos').Subscript b pos) X.env v = (do
      let ov ← holding [v] (eval (.Name x pos') X.env)
      let iv ← holding [v, ov] (eval b X.env)
      standAt pos
      holding [v, ov, iv] (setItem ov iv v)
      release [v, ov, iv] []) := by intro _; rfl) : MG X ro (.Subscript (.Name x pos') b pos) (gixN i ob o) := ⟨fun {F H M N σ ds d v Q} w0 r0 s0 q => by
  obtain ⟨h1, q⟩ := q
  obtain ⟨d0, e1, ho1⟩ := onAt_some h1
  obtain ⟨vc, N0, ev, _, _⟩ := s0.at e1 ho1
  have wM : Wd F H (M ++ N) := w0.perm List.perm_append_comm
  refine to_wG (pg_sub (pe_var hN hv hd hcd) (pe_w b) setU ha) ⟨vc, ev, ?_⟩
  refine (hb.run (wM.part (List.sublist_append_left _ _)) s0 (k := fun t s1 => _) q).imp fun u H1 ⟨t, ds1, F1, N1, M1, w1, t1, r1, s1, cx, cy, ex, ox, ey, oy, q1⟩ => ?_
  obtain ⟨B, rb, _⟩ := r1.look s1 ey (on_ne oy)
  obtain ⟨A, R, rx, p', put⟩ := plN_held s1 ex (on_ne ox) ev
  have b := frame wM t1 w1
  have r0' := b.rp r0 fun a h => h
  have sub : (M1 ++ N).Sublist ((N1 ++ M1) ++ N) := List.Sublist.append_right (List.sublist_append_right _ _) _
  have w2 : Wd F1 H1 (N ++ M1) := (b.wd.part sub).perm List.perm_append_comm
  refine set_core ho w2 p' rx rb r0' put q1 fun {H' F' ds' M'} w' t' s' q' => ⟨ds', F', M', w', ?_, s', Pin.refl ro σ, q'⟩
  have tb : Tr F H (N ++ M) F1 H1 (N ++ M1) := (b.tr.wide fun a h => (List.perm_append_comm).mem_iff.mp h).drop fun a h => sub.subset ((List.perm_append_comm).mem_iff.mp h)
  exact tb.trans w0 w2 t'⟩

/-! ### calls of one's own defs: by value, or lent -/
inductive AE where
  | V (w : DE) | L (p : PL)
abbrev Lent := List (Option (PL × V))
def wargs : List AE → DS → (List D → Lent → DS → Prop) → Prop
  | [], s, k => k [] [] s
  | .V w :: r, s, k => w s fun x s1 => wargs r s1 fun xs ls s2 => k (x :: xs) (none :: ls) s2
  | .L p :: r, s, k => ∃ c g, p s = some (c, g) ∧ ∀ v, wargs r (g (.hole v)) fun xs ls s2 => k (c :: xs) (some (p, v) :: ls) s2
def putB : Lent → List D → DS → (DS → Prop) → Prop
  | [], [], s, k => k s
  | none :: ls, _ :: os, s, k => putB ls os s k
  | some (p, v) :: ls, o :: os, s, k => ∃ h g, p s = some (h, g) ∧ h = .hole v ∧ putB ls os (g o) k
  | _, _, _, _ => False
inductive LentOk (K : PySem.W.Frag) : Lent → List V → Prop
  | nil : LentOk K [] []
  | no {ls : Lent} {v : V} {vs : List V} : LentOk K ls vs → LentOk K (none :: ls) (v :: vs)
  | yes {p : PL} {ls : Lent} {v : V} {vs : List V} : PlOk K p → LentOk K ls vs → LentOk K (some (p, v) :: ls) (v :: vs)
def ResA (X : Cx) (σ : L2.St) (F H : Hp) (M : List Addr) (n : Nat) (Q : List D → Lent → DS → Prop) : List V → Hp → Prop := fun v H' => ∃ d ls ds' F' N M', v.length = n ∧ Wd F' H' (N ++ M') ∧ Tr F H M F' H' (N ++ M') ∧ RpL X.K F' H' d v N ∧ LentOk X.K ls v ∧ SR X.K F' H' ds' σ M' ∧ Q d ls ds'
structure MAs (X : Cx) (es : List Expr) (as : List AE) : Prop where
  run : ∀ {F H : Hp} {M : List Addr} {σ : L2.St} {ds : DS} {Q : List D → Lent → DS → Prop}, Wd F H M → SR X.K F H ds σ M → wargs as ds Q → wA X es σ H (ResA X σ F H M es.length Q)
theorem mas_nil : MAs X [] [] := ⟨fun {F H M σ ds k} w0 s0 q => to_wA pa_nil (show ResA X σ F H M 0 k [] H from ⟨[], [], ds, F, [], M, rfl, w0, Tr.refl F H M, .nil, .nil, s0, q⟩)⟩
theorem mas_val {e : Expr} {es : List Expr} {w : DE} {as : List AE} (h1 : ME X e w) (h2 : MAs X es as) (hs : starEach (e :: es) X.env = (false, eval e X.env) :: starEach es X.env := by rfl) : MAs X (e :: es) (.V w :: as) := ⟨fun {F H M σ ds k} w0 s0 q => by
  refine to_wA (pa_cons (pe_w e) (pa_w es) hs) ?_
  refine (h1.run w0 s0 (Q := fun t s1 => _) q).imp fun v H1 ⟨t, ds1, F1, N, M1, w1, t1, r1, s1, k1⟩ => ?_
  refine (h2.run (w1.part (List.sublist_append_right _ _)) s1 k1).imp fun vs H2 ⟨ts, ls, ds2, F2, N2, M2, hl, w2, t2, r2, l2, s2, k2⟩ => ?_
  have n := next w0 w1 t1 w2 t2
  exact ⟨t :: ts, none :: ls, ds2, F2, N ++ N2, M2, congrArg (· + 1) hl, n.wd, n.tr, .cons (r1.mono n.up n.same) r2, .no l2, s2, k2⟩⟩
theorem mas_lend {e : Expr} {es : List Expr} {p : PL} {as : List AE} (h1 : MPl X e p) (h2 : MAs X es as) (hs : starEach (e :: es) X.env = (false, eval e X.env) :: starEach es X.env := by rfl) : MAs X (e :: es) (.L p :: as) := ⟨fun {F H M σ ds k} w0 s0 q => by
  refine to_wA (pa_cons (pe_w e) (pa_w es) hs) ?_
  obtain ⟨c, g, e1, q⟩ := q
  refine (h1.run w0 s0 e1).imp fun v H1 ⟨eH, hv⟩ => ?_
  subst eH
  obtain ⟨N, M1, r1, s1, p1⟩ := hv.hole w0
  have w1 : Wd F H1 (N ++ M1) := w0.perm p1.symm
  have t1 : Tr F H1 M F H1 (N ++ M1) := (Tr.refl F H1 M).drop fun a h => p1.mem_iff.mpr h
  refine (h2.run (w1.part (List.sublist_append_right _ _)) s1 (q v)).imp fun vs H2 ⟨ts, ls, ds2, F2, N2, M2, hl, w2, t2, r2, l2, s2, k2⟩ => ?_
  have n := next w0 w1 t1 w2 t2
  exact ⟨c :: ts, some (p, v) :: ls, ds2, F2, N ++ N2, M2, congrArg (· + 1) hl, n.wd, n.tr, .cons (r1.mono n.up n.same) r2, .yes h1.ok l2, s2, k2⟩⟩
abbrev FW := List D → (D → List D → Prop) → Prop
/-- the promise of a def, by data: its parameters' data when it is called; its answer's and the parameters' data behind it -/
def spM (K : PySem.W.Frag) (n : Nat) (W : FW) : Sp := fun vs H Q _ => ∃ F A ds R, Wd F H A ∧ RpL K F H ds vs A ∧ ds.length = n ∧ W ds R ∧ ∀ (v : V) (H' F' : Hp) (B B' : List Addr) (d : D) (outs : List D), Wd F' H' (B ++ B') → Tr F H A F' H' (B ++ B') → Rp K F' H' d v B → RpL K F' H' outs vs B' → R d outs → Q v H'
def wcall (W : FW) (as : List AE) : DE := fun s Q => wargs as s fun xs ls s1 => W xs fun d outs => putB ls outs s1 fun s2 => Q d s2
theorem put_core {K : PySem.W.Frag} {F H : Hp} {σ : L2.St} {Q : DS → Prop} : ∀ {ls : Lent} {vs : List V} {outs : List D} {B N M : List Addr} {ds : DS}, LentOk K ls vs → RpL K F H outs vs N → Wd F H (B ++ (N ++ M)) → SR K F H ds σ M → putB ls outs ds Q →
    ∃ ds' M', Wd F H (B ++ M') ∧ (∀ a ∈ M', a ∈ N ++ M) ∧ SR K F H ds' σ M' ∧ Q ds'
  | _, _, _, B, _, M, ds, .nil, .nil, w, s, q => ⟨ds, M, w, fun a h => h, s, q⟩
  | _, _, _, B, _, M, ds, .no l, .cons (M := N1) (N := N2) r rs, w, s, q => by
    have sub : (B ++ (N2 ++ M)).Sublist (B ++ ((N1 ++ N2) ++ M)) := List.Sublist.append_left (List.Sublist.append_right (List.sublist_append_right _ _) _) _
    obtain ⟨ds', M', w', m', s', q'⟩ := put_core l rs (w.part sub) s q
    exact ⟨ds', M', w', fun a h => by have := m' a h; simp only [List.mem_append] at this ⊢; rcases this with h | h <;> simp [h], s', q'⟩
  | _, _, _, B, _, M, ds, .yes (p := p) hp l, .cons (M := N1) (N := N2) r rs, w, s, q => by
    obtain ⟨h, g, e1, eh, q⟩ := q
    subst eh
    obtain ⟨_, v', N', R, rh, p', put⟩ := hp.run w.sub s e1
    obtain ⟨rfl, rfl⟩ := rp_hole rh
    have pR : M.Perm R := p'
    obtain ⟨M2, p2, s2⟩ := put (fun _ _ h => h) (fun _ _ => rfl) r
    have pp : (B ++ (N2 ++ M2)).Perm (B ++ ((N1 ++ N2) ++ M)) := by
      refine List.Perm.append_left B ?_
      refine (List.Perm.append_left N2 (p2.trans (List.Perm.append_left N1 pR.symm))).trans ?_
      rw [List.append_assoc]
      exact perm_in
    obtain ⟨ds', M', w', m', s', q'⟩ := put_core l rs (w.perm pp) s2 q
    refine ⟨ds', M', w', fun a h => ?_, s', q'⟩
    have := m' a h
    rcases List.mem_append.mp this with h | h
    · simp [h]
    · have := p2.mem_iff.mp h
      rcases List.mem_append.mp this with h | h
      · simp [h]
      · simp [pR.mem_iff.mpr h]
theorem me_call {k n : Nat} {f : Addr} {fd : FuncData} {ps : List Str} {W : FW} {x : Str} {p : Pos} {e : Expr} {es : List Expr} {as : List AE} (Fk : FnOk X.prog X.w X.K X.mg X.base CX0 k f fd ps (spM X.K n W)) (hr : Room k X.A) (hm : X.mg x = some (.ref f))
    (kp : PySem.W.keepIn X.K (.ref f) = true) (b : Binds X.K fd ps []) (ha : MAs X (e :: es) as) (hn : (e :: es).length = n := by rfl) (hg : Gl X x := by rfl) (hdb : (x == ("__debug__" : Str)) = false := by decide)
    (he : starEach (e :: es) X.env = (false, eval e X.env) :: starEach es X.env := by rfl) (hpl : (backTo pos (starEach es X.env)).any (·.1) = false := by rfl) : ME X (.Call (.Name x p) (e :: es) [] pos) (wcall W as) := ⟨fun {F H M σ ds Q} w0 s0 q => by
  refine to_wE (pe_call Fk hr hg hm kp b .nil pass0 (pa_w _) hdb he hpl) ?_
  refine (ha.run w0 s0 q).imp fun vs H1 ⟨xs, ls, ds1, F1, N, M1, hl, w1, t1, r1, l1, s1, k1⟩ => ?_
  rw [List.append_nil]
  refine ⟨F1, N, xs, _, w1.part (List.sublist_append_left _ _), r1, r1.len.trans (hl.trans hn), k1, fun v H' F' B B' d outs w' t' r' ro' q' => ?_⟩
  have b := frame w1 t' w'
  have w2 : Wd F' H' (B ++ (B' ++ M1)) := b.wd.perm (by rw [List.append_assoc])
  obtain ⟨ds', M', w3, m3, s3, q3⟩ := put_core l1 ro' w2 (s1.mono t'.up b.same) q'
  refine ⟨d, ds', F', B, M', w3, (t1.trans w0 w1 b.tr).drop fun a h => ?_, r', s3, q3⟩
  rw [List.append_assoc]
  rcases List.mem_append.mp h with h | h
  · exact List.mem_append_left _ h
  · exact List.mem_append_right _ (m3 a h)⟩

/-! ### a def's body -/
def outsB : List Bool → DS → List D
  | true :: bs, d :: s => d :: outsB bs s
  | false :: bs, _ :: s => .off :: outsB bs s
  | _, _ => []
def roB (bs : List Bool) : List Nat := (List.range bs.length).filter fun i => bs.getD i false
theorem outs_core {K : PySem.W.Frag} {F H : Hp} : ∀ {bs : List Bool} {ds : DS} {σ : L2.St} {M : List Addr} {vs : List V} , SR K F H ds σ M → vs.length = bs.length → vs.length ≤ ds.length → (∀ i : Nat, bs[i]? = some true → σ[i]? = (vs[i]?).map some) → ∃ B, B.Sublist M ∧ RpL K F H (outsB bs ds) vs B
  | [], _, _, M, [], s, _, _, _ => ⟨[], List.nil_sublist _, by unfold outsB; exact .nil⟩
  | b :: bs, [], _, M, v :: vs, s, _, h, _ => absurd h (by simp)
  | b :: bs, d :: ds, _, _, v :: vs, .cons (M := M) (N := N) r s, hl, hd, hb => by
    obtain ⟨B, sB, l⟩ := outs_core (bs := bs) (vs := vs) s (by simpa using hl) (by simpa using hd) fun i h => by
      have := hb (i + 1) (by simpa using h)
      simpa using this
    cases b with
    | false => exact ⟨[] ++ B, sB.trans (List.sublist_append_right _ _), .cons (.off v) l⟩
    | true =>
      have h0 := hb 0 rfl
      simp only [List.getElem?_cons_zero, Option.map_some, Option.some.injEq] at h0
      subst h0
      cases r with
      | any => exact ⟨[] ++ B, sB.trans (List.sublist_append_right _ _), .cons (.off v) l⟩
      | on r => exact ⟨M ++ B, List.Sublist.append_left sB M, .cons r l⟩
theorem sr_off {K : PySem.W.Frag} {F H : Hp} : ∀ n : Nat, SR K F H (List.replicate n .off) (List.replicate n none) []
  | 0 => .nil
  | n + 1 => by
    rw [List.replicate_succ, List.replicate_succ]
    exact .cons (M := []) (N := []) (.any none) (sr_off n)
theorem sr_start {K : PySem.W.Frag} {F H : Hp} (n : Nat) : ∀ {ds : List D} {vs : List V} {M : List Addr}, RpL K F H ds vs M → SR K F H (ds ++ List.replicate n .off) (vs.map some ++ List.replicate n none) M
  | _, _, _, .nil => sr_off n
  | _, _, _, .cons r l => .cons (.on r) (sr_start n l)
def startD (m n : Nat) (ds : List D) : DS := ds ++ List.replicate (n - m) .off
def endsB (bs : List Bool) (R : D → List D → Prop) : DEnds := ⟨fun s => R .non (outsB bs s), fun d s => R d (outsB bs s), fun _ => False, fun _ => False⟩
theorem ok_M {P : Program} {w : World} {K : PySem.W.Frag} {mg : Str → Option Value} {base : Heap} {x qual : Str} {st : Stmt} {f : Addr} {fd : FuncData} {N ps : List Str} {k n : Nat} {W : FW} {wb : DSt} {bs : List Bool} {ro : List Nat} (Fn : Fun K x qual st f fd) (sc : FnScope N ps (defScope st))
    (hb : ∀ (cdv : Value) (A : Around) (outer : List Env) (s : Shared) (H : Hp) (E : XK), Room k (A.deeper (envOfC qual (defScope st) s.heap.objs.size f cdv)) → MSs (cxOf CX0 P w K mg base N qual (defScope st) f cdv A outer s H E).nox ro (defBody st) wb)
    (hW : ∀ ds R, ds.length = n → W ds R → wb (endsB bs R) (startD n N.length ds)) (hn : ps.length = n := by rfl) (hbs : bs.length = n := by rfl) (hro : roB bs = ro := by rfl) (hN : n ≤ N.length := by decide) : FnOk P w K mg base CX0 (k + 1) f fd ps (spM K n W) := by
  refine Fn.ok sc (fun vs H Q E h => ?_) fun cdv A outer s H vs Q E hr h => ?_
  · obtain ⟨F, A, ds, R, _, l, hl, _⟩ := h
    rw [← l.len, hl, hn]
  · obtain ⟨F, A0, ds, R, w0, l, hl, hw, hq⟩ := h
    refine ⟨_, pss_w _, ?_⟩
    have s0 : SR K F H (startD n N.length ds) (L2.start N vs) A0 := by
      unfold startD L2.start
      rw [← l.len, hl]
      exact sr_start _ l
    have hlv : vs.length = n := l.len.symm.trans hl
    have fin : ∀ {σ' : L2.St} {ds' : DS} {F' H' : Hp} {M' : List Addr}, SR K F' H' ds' σ' M' → Pin ro (L2.start N vs) σ' → ∃ B, B.Sublist M' ∧ RpL K F' H' (outsB bs ds') vs B := fun {σ' ds' F' H' M'} s' pin => by
      refine outs_core s' (hlv.trans hbs.symm) ?_ fun i h => ?_
      · have h1 := s'.len
        have h2 := pin.1
        have h3 := s0.len
        unfold startD at h3
        rw [List.length_append, List.length_replicate] at h3
        omega
      · have hi : i < bs.length := (List.getElem?_eq_some_iff.mp h).1
        have : i ∈ ro := by
          rw [← hro]
          refine List.mem_filter.mpr ⟨List.mem_range.mpr hi, ?_⟩
          rw [List.getD_eq_getElem?_getD, h]; rfl
        rw [pin.2 i this]
        unfold L2.start
        rw [List.getElem?_append_left (by rw [List.length_map]; omega), List.getElem?_map]
    refine wSs.imp ((hb cdv A outer s H E hr).run w0 s0 (hW ds R hl hw)) ?_ ?_ ?_ ?_
    · rintro σ' H' ⟨ds', F', M', w', t', s', pin, q'⟩
      obtain ⟨B, sB, lB⟩ := fin s' pin
      exact hq .non H' F' [] B .non _ (w'.part sB) (t'.drop fun a h => sB.subset h) .non lB q'
    · rintro v H' ⟨σ', d, ds', F', N', M', w', t', r', s', pin, q'⟩
      obtain ⟨B, sB, lB⟩ := fin s' pin
      have sB' : (N' ++ B).Sublist (N' ++ M') := List.Sublist.append_left sB _
      exact hq v H' F' N' B d _ (w'.part sB') (t'.drop fun a h => sB'.subset h) r' lB q'
    · rintro σ' H' ⟨ds', F', M', w', t', s', pin, q'⟩
      exact q'.elim
    · rintro σ' H' ⟨ds', F', M', w', t', s', pin, q'⟩
      exact q'.elim
end
end M

namespace M
open PySem PySem.Spec PyProof.Rows L2

/-! ### defs where no repr is under way -/
structure FnG (P : Program) (w : World) (K : PySem.W.Frag) (mg : Str → Option Value) (base : Heap) (k : Nat) (f : Addr) (fd : FuncData) (ps : List Str) (sp : Sp) : Prop where
  len : ∀ (vs : List V) (H : Hp) (Q : VK), sp vs H Q E0 → vs.length = ps.length
  run : ∀ (A : Around) (outer : List Env) (s : Shared) (H : Hp) (args : Args) (us : List Value) (vs : List V) (Q : VK), Room k A → A.guards = some [] → Env0 P w K mg base A outer s H → BindsTo s fd args (ps.zip us) → Vals vs us → sp vs H Q E0 →
    codeAny (model P w) A (Code.call (.ref f) args) (CR CX0 outer P w H s Q E0) s
theorem ok_G {P : Program} {w : World} {K : PySem.W.Frag} {mg : Str → Option Value} {base : Heap} {x qual : Str} {st : Stmt} {f : Addr} {fd : FuncData} {N ps : List Str} {k : Nat} {sp : Sp} (F : Fun K x qual st f fd) (S : FnScope N ps (defScope st)) (len : ∀ (vs : List V) (H : Hp) (Q : VK), sp vs H Q E0 → vs.length = ps.length)
    (hbody : ∀ (cdv : Value) (A : Around) (outer : List Env) (s : Shared) (H : Hp) (vs : List V) (Q : VK), Room k (A.deeper (envOfC qual (defScope st) s.heap.objs.size f cdv)) → A.guards = some [] → sp vs H Q E0 →
      ∃ t, PSs (cxOf CX0 P w K mg base N qual (defScope st) f cdv A outer s H E0).nox (defBody st) t ∧ t { nx := fun _ H' => Q .non H', rt := Q } (L2.start N vs) H) : FnG P w K mg base (k + 1) f fd ps sp := by
  obtain ⟨oc, od, kV, doc, pm, an, cdv, ct, osl, rfl, lk, hcd⟩ := F.ex
  refine ⟨len, fun A outer s H args us vs Q hr hg e0 hb r hsp => ?_⟩
  have hl := len vs H Q hsp
  have KX := PySem.W.Frag.In.keeps e0.mod.kin fun b o e => (e0.bs b o e).1
  have lim := Heap.NoLimit.keeps e0.mod.nolimit fun b o e => (e0.bs b o e).1
  refine codeAny_call_function hr.depth (KX f _ lk) rfl S.co S.gen rfl (PySem.W.codeRec_of KX hcd) ?_
  refine hb (model P w) A.in1 _ _ ?_
  refine wpAny_newFunctionEnv_cells S.kind ?_ fun env he s1 x => ?_
  · rintro ⟨n, v⟩ hy
    rcases S.par n (List.of_mem_zip hy).1 with q | q
    · exact .inl q
    · exact .inr ⟨q, PySem.W.cellsFrom_some _ (s.heap.objs.size + 1) [] (.inl q)⟩
  · subst he
    refine ⟨lim.keeps x.toInCall.keep, codeAny_func ?_⟩
    obtain ⟨t, ht, hq⟩ := hbody cdv A outer s H vs Q (hr.deeper _) hg hsp
    have ht' := PSs.nox ht
    have I := inv_start (CX := CX0) (E := E0) S hr.hd e0 hl r x
    refine wpAny_mono (ht'.run [] s1 _ H _ I hq) (fun fl s' hs => ?_) fun e s' hs => hs
    cases fl with
    | next => obtain ⟨σ', H', J, q⟩ := hs; exact ⟨.non, H', J.os, J.bare, J.base, J.hok, rfl, q⟩
    | brk => obtain ⟨σ', H', J, q⟩ := hs; exact q.elim
    | cont => obtain ⟨σ', H', J, q⟩ := hs; exact q.elim
    | ret u => obtain ⟨v, σ', H', J, rv, q⟩ := hs; exact ⟨v, H', J.os, J.bare, J.base, J.hok, rv, q⟩
theorem run_G {X : Cx} {k : Nat} {f : Addr} {fd : FuncData} {ps : List Str} {sp : Sp} {pins : List (Addr × Obj)} {σ : L2.St} {H : Hp} {s : Shared} {Q : VK} {us : List Value} {vs : List V} (F : FnG X.prog X.w X.K X.mg X.base k f fd ps sp) (hr : Room k X.A) (hg : X.A.guards = some [])
    (hb : Binds X.K fd ps []) (I : Inv X pins σ H s) (r : Vals vs us) (h : sp vs H Q E0) : wpAny (model X.prog X.w) X.A (call (.ref f) us) (EP X pins σ Q) X.xe s := by
  have hl : us.length = ps.length := by rw [← r.length]; exact F.len vs H Q h
  have hb' := hb s us I.kIn (by rw [List.append_nil]; exact hl)
  rw [List.append_nil] at hb'
  refine wpAny_call (codeAny_mono (F.run X.A X.stack s H { pos := us } us vs Q hr hg I.env0 hb' r h) fun r s' hq => ?_)
  match r with
  | .error e => exact hq.elim
  | .ok (.ret v) => exact Inv.after I hq
  | .ok .next => exact hq.elim
  | .ok .brk => exact hq.elim
  | .ok .cont => exact hq.elim
theorem pe_callG {X : Cx} {k : Nat} {f : Addr} {fd : FuncData} {ps : List Str} {sp : Sp} {x : Str} {p pos : Pos} {e : Expr} {es : List Expr} {t : TA} (F : FnG X.prog X.w X.K X.mg X.base k f fd ps sp) (hr : Room k X.A) (hgd : X.A.guards = some []) (hg : Gl X x) (hm : X.mg x = some (.ref f))
    (hk : PySem.W.keepIn X.K (.ref f) = true) (hb : Binds X.K fd ps []) (ha : PA X (e :: es) t) (hdb : (x == ("__debug__" : Str)) = false := by decide)
    (he : starEach (e :: es) X.env = (false, eval e X.env) :: starEach es X.env := by rfl) (hpl : (backTo pos (starEach es X.env)).any (·.1) = false := by rfl) : PE X (.Call (.Name x p) (e :: es) [] pos) (fun σ H Q => t σ H fun vs H1 => sp vs H1 Q E0) := ⟨fun pins s σ H Q I h =>
  wpAny_Call_Name_kw (ld_glob I hg hm (PySem.W.callWith_K I.ok.mod.kin hk (thn (ha.run pos pins s σ H _ I h) fun us s1 ⟨vs, H1, I1, r, q⟩ => ⟨Inv.kIn I1, run_G F hr hgd hb I1 r q⟩) he hpl) hdb)⟩
theorem me_callG {X : Cx} {k n : Nat} {f : Addr} {fd : FuncData} {ps : List Str} {W : FW} {x : Str} {p pos : Pos} {e : Expr} {es : List Expr} {as : List AE} (Fk : FnG X.prog X.w X.K X.mg X.base k f fd ps (spM X.K n W)) (hr : Room k X.A) (hgd : X.A.guards = some []) (hm : X.mg x = some (.ref f))
    (kp : PySem.W.keepIn X.K (.ref f) = true) (b : Binds X.K fd ps []) (ha : MAs X (e :: es) as) (hn : (e :: es).length = n := by rfl) (hg : Gl X x := by rfl) (hdb : (x == ("__debug__" : Str)) = false := by decide)
    (he : starEach (e :: es) X.env = (false, eval e X.env) :: starEach es X.env := by rfl) (hpl : (backTo pos (starEach es X.env)).any (·.1) = false := by rfl) : ME X (.Call (.Name x p) (e :: es) [] pos) (wcall W as) := ⟨fun {F H M σ ds Q} w0 s0 q => by
  refine to_wE (pe_callG Fk hr hgd hg hm kp b (pa_w _) hdb he hpl) ?_
  refine (ha.run w0 s0 q).imp fun vs H1 ⟨xs, ls, ds1, F1, N, M1, hl, w1, t1, r1, l1, s1, k1⟩ => ?_
  refine ⟨F1, N, xs, _, w1.part (List.sublist_append_left _ _), r1, r1.len.trans (hl.trans hn), k1, fun v H' F' B B' d outs w' t' r' ro' q' => ?_⟩
  have b := frame w1 t' w'
  have w2 : Wd F' H' (B ++ (B' ++ M1)) := b.wd.perm (by rw [List.append_assoc])
  obtain ⟨ds', M', w3, m3, s3, q3⟩ := put_core l1 ro' w2 (s1.mono t'.up b.same) q'
  refine ⟨d, ds', F', B, M', w3, (t1.trans w0 w1 b.tr).drop fun a h => ?_, r', s3, q3⟩
  rw [List.append_assoc]
  rcases List.mem_append.mp h with h | h
  · exact List.mem_append_left _ h
  · exact List.mem_append_right _ (m3 a h)⟩
theorem ok_MG {P : Program} {w : World} {K : PySem.W.Frag} {mg : Str → Option Value} {base : Heap} {x qual : Str} {st : Stmt} {f : Addr} {fd : FuncData} {N ps : List Str} {k n : Nat} {W : FW} {wb : DSt} {bs : List Bool} {ro : List Nat} (Fn : Fun K x qual st f fd) (sc : FnScope N ps (defScope st))
    (hb : ∀ (cdv : Value) (A : Around) (outer : List Env) (s : Shared) (H : Hp), Room k (A.deeper (envOfC qual (defScope st) s.heap.objs.size f cdv)) → A.guards = some [] → MSs (cxOf CX0 P w K mg base N qual (defScope st) f cdv A outer s H E0).nox ro (defBody st) wb)
    (hW : ∀ ds R, ds.length = n → W ds R → wb (endsB bs R) (startD n N.length ds)) (hn : ps.length = n := by rfl) (hbs : bs.length = n := by rfl) (hro : roB bs = ro := by rfl) (hN : n ≤ N.length := by decide) : FnG P w K mg base (k + 1) f fd ps (spM K n W) := by
  refine ok_G Fn sc (fun vs H Q h => ?_) fun cdv A outer s H vs Q hr hgd h => ?_
  · obtain ⟨F, A, ds, R, _, l, hl, _⟩ := h
    rw [← l.len, hl, hn]
  · obtain ⟨F, A0, ds, R, w0, l, hl, hw, hq⟩ := h
    refine ⟨_, pss_w _, ?_⟩
    have s0 : SR K F H (startD n N.length ds) (L2.start N vs) A0 := by
      unfold startD L2.start
      rw [← l.len, hl]
      exact sr_start _ l
    have hlv : vs.length = n := l.len.symm.trans hl
    have fin : ∀ {σ' : L2.St} {ds' : DS} {F' H' : Hp} {M' : List Addr}, SR K F' H' ds' σ' M' → Pin ro (L2.start N vs) σ' → ∃ B, B.Sublist M' ∧ RpL K F' H' (outsB bs ds') vs B := fun {σ' ds' F' H' M'} s' pin => by
      refine outs_core s' (hlv.trans hbs.symm) ?_ fun i h => ?_
      · have h1 := s'.len
        have h2 := pin.1
        have h3 := s0.len
        unfold startD at h3
        rw [List.length_append, List.length_replicate] at h3
        omega
      · have hi : i < bs.length := (List.getElem?_eq_some_iff.mp h).1
        have : i ∈ ro := by
          rw [← hro]
          refine List.mem_filter.mpr ⟨List.mem_range.mpr hi, ?_⟩
          rw [List.getD_eq_getElem?_getD, h]; rfl
        rw [pin.2 i this]
        unfold L2.start
        rw [List.getElem?_append_left (by rw [List.length_map]; omega), List.getElem?_map]
    refine wSs.imp ((hb cdv A outer s H hr hgd).run w0 s0 (hW ds R hl hw)) ?_ ?_ ?_ ?_
    · rintro σ' H' ⟨ds', F', M', w', t', s', pin, q'⟩
      obtain ⟨B, sB, lB⟩ := fin s' pin
      exact hq .non H' F' [] B .non _ (w'.part sB) (t'.drop fun a h => sB.subset h) .non lB q'
    · rintro v H' ⟨σ', d, ds', F', N', M', w', t', r', s', pin, q'⟩
      obtain ⟨B, sB, lB⟩ := fin s' pin
      have sB' : (N' ++ B).Sublist (N' ++ M') := List.Sublist.append_left sB _
      exact hq v H' F' N' B d _ (w'.part sB') (t'.drop fun a h => sB'.subset h) r' lB q'
    · rintro σ' H' ⟨ds', F', M', w', t', s', pin, q'⟩
      exact q'.elim
    · rintro σ' H' ⟨ds', F', M', w', t', s', pin, q'⟩
      exact q'.elim
/-- a lesser promise -/
theorem FnG.less {P : Program} {w : World} {K : PySem.W.Frag} {mg : Str → Option Value} {base : Heap} {k n : Nat} {f : Addr} {fd : FuncData} {ps : List Str} {W W' : FW} (F : FnG P w K mg base k f fd ps (spM K n W)) (h : ∀ ds R, W' ds R → W ds R) : FnG P w K mg base k f fd ps (spM K n W') :=
  have h' : ∀ vs H Q, spM K n W' vs H Q E0 → spM K n W vs H Q E0 := fun vs H Q ⟨F, A, ds, R, w, l, hl, q, k⟩ => ⟨F, A, ds, R, w, l, hl, h ds R q, k⟩
  ⟨fun vs H Q q => F.len vs H Q (h' vs H Q q), fun A outer s H args us vs Q hr hg e0 hb r q => F.run A outer s H args us vs Q hr hg e0 hb r (h' vs H Q q)⟩
end M

namespace M
open PySem PySem.Spec PyProof.Rows L2
/-! ### from the promise of the law's def to the law -/
theorem law_callG {P : Program} {w : World} {K : PySem.W.Frag} {mg mb : Str → Option Value} {k : Nat} {fa a : Addr} {fd : FuncData} {x : Str} {sp : Sp} {s₁ : Shared} {vs : List Value} {ns : List Int} (KX : K.In s₁.heap) (hns : s₁.heap.Ns mainGlobals mg) (hb : s₁.heap.Ns builtinsNs mb)
    (hbb : ∀ x, x ≠ ("__name__" : Str) → mb x = bootBuiltins x) (hlim : s₁.heap.NoLimit) (hg : s₁.gens = #[]) (ha : s₁.heap.get? a = some { cls := .type "list", data := .seq vs.toArray }) (hi : IntsAre vs ns) (hl : ns.length ≤ sizeLine) (hr : Room k callerA)
    (F : ∀ base : Heap, K.In base → base.Ns mainGlobals mg → FnG P w K mg base k fa fd [x] sp) (hbind : ∀ (s : Shared) (u : Value), BindsTo s fd { pos := [u] } [(x, u)]) (hsp : ∀ H : Hp, Only H → SqL K H a (ns.map V.int) → sp [.ref a] H (fun v _ => v = .bl true) E0) :
    codeAny (model P w) callerA (Code.call (.ref fa) { pos := [.ref a] }) (fun r s' => r = .ok (.ret (.bool true)) ∧ OldK s₁.heap s'.heap ∧ s'.os = s₁.os ∧ AllBare s'.gens) s₁ := by
  have rv := vals_ints hi
  have core : ∀ H : Hp, Only H → SqL K H a (ns.map V.int) → HOk P w H s₁.heap → (∀ b, H b ≠ none → b = a) → (H a ≠ none → K.lookup a = none) →
      codeAny (model P w) callerA (Code.call (.ref fa) { pos := [.ref a] }) (fun r s' => r = .ok (.ret (.bool true)) ∧ OldK s₁.heap s'.heap ∧ s'.os = s₁.os ∧ AllBare s'.gens) s₁ := by
    intro H hO hS hok hA hK
    have noA : ∀ {b : Addr} {o : Obj}, s₁.heap.get? b = some o → (∀ es, o.data ≠ .seq es 0) → H b = none := fun {b o} e d => by
      cases q : H b with
      | none => rfl
      | some u =>
        have e' := hA b (by rw [q]; exact fun z => nomatch z)
        subst e'
        rw [ha] at e
        cases e
        exact absurd rfl (d _)
    have nsK : ∀ {b : Addr} {m : Str → Option Value}, s₁.heap.Ns b m → (hidT s₁.heap H).Ns b m := fun ⟨o, es, ep, e, d, r⟩ => ⟨o, es, ep, hidT_get e (noA e fun _ z => by rw [d] at z; cases z), d, r⟩
    have hKb : K.In (hidT s₁.heap H) := fun b o e => hidT_get (KX b o e) (by
      cases q : H b with
      | none => rfl
      | some u =>
        have e' := hA b (by rw [q]; exact fun z => nomatch z)
        subst e'
        rw [hK (by rw [q]; exact fun z => nomatch z)] at e
        cases e)
    have hM : Mod K mg (hidT s₁.heap H) := ⟨hKb, nsK hns, ⟨mb, nsK hb, hbb⟩, by
      obtain ⟨mc, h1, h2⟩ := hlim
      exact ⟨mc, nsK h1, h2⟩⟩
    have e0 : Env0 P w K mg (hidT s₁.heap H) callerA [] s₁ H := ⟨rfl, hM, fun b o e => of_hidT e, Nat.le_of_eq (hidT_size s₁.heap H), trivial, fun b hb => (by cases hb), hok, AllBare.of_eq hg⟩
    refine codeAny_mono ((F (hidT s₁.heap H) hKb (nsK hns)).run callerA [] s₁ H { pos := [.ref a] } [.ref a] [.ref a] _ hr rfl e0 (hbind s₁ (.ref a)) (Paired.cons rfl Paired.nil) (hsp H hO hS)) fun r s' h => ?_
    match r with
    | .error e => exact h.elim
    | .ok .next => exact h.elim
    | .ok .brk => exact h.elim
    | .ok .cont => exact h.elim
    | .ok (.ret u) =>
      obtain ⟨v, H', os, bare, un, hok', r', q⟩ := h
      subst q
      cases r'
      refine ⟨rfl, OldK.of_keep fun b o e => ?_, os, bare⟩
      cases q : H b with
      | none => exact un.keep b o e q (by intro z; cases z) (by intro z; cases z)
      | some u =>
        rcases hO b with z | ⟨ob, xs, z⟩
        · rw [z] at q; cases q
        · have h2 := un.frzs b _ _ z
          have o1 := hok b _ z
          have o2 := hok' b _ h2
          exact o2.1.trans (o1.1.symm.trans e)
  cases hk : K.lookup a with
  | none =>
    refine core (fun b => if b = a then some (.frz { cls := .type "list", data := .seq vs.toArray } (.lst (ns.map V.int))) else none) (fun b => ?_) (.inl (.inr ⟨_, if_pos rfl⟩)) (fun b u z => ?_) (fun b z => ?_) fun _ => hk
    · by_cases hb : b = a
      · exact .inr ⟨_, _, if_pos hb⟩
      · exact .inl (if_neg hb)
    · by_cases hb : b = a
      · simp only [if_pos hb] at z
        cases z
        subst hb
        exact ⟨ha, by rw [List.length_map]; exact hl, vs, 0, rv, ha⟩
      · simp only [if_neg hb] at z
        cases z
    · by_cases hb : b = a
      · exact hb
      · exact absurd (if_neg hb) z
  | some o =>
    have e := KX a o hk
    rw [ha] at e
    cases e
    exact core (fun _ => none) (fun _ => .inl rfl) (.inr ⟨_, vs.toArray, 0, hk, rfl, rfl, rfl, by rw [List.size_toArray, ← rv.length, List.length_map]; exact hl, by exact rv⟩) (fun b u z => by cases z) (fun b z => absurd rfl z) fun z => absurd rfl z
theorem walk_ofG {l : PySem.W.OpenLaw} {n k : Nat} {q : Program} {loose : List Str} {XP : (Str → Option Value) → Heap → Prop} {YP : World → Heap → Prop} {d : DefRec} {K : Params → PySem.W.Frag} {sp : World → Sp} {x : Str} (hn : l.most = some n) (hn2 : n ≤ sizeLine) (hdf : d.params.defaults = []) (hr : Room k callerA)
    (hY : ∀ (w : World) (h : Heap), YP w h → (K w.params).In h)
    (F : ∀ (w : World) (mg : Str → Option Value) (fa : Addr) (h : Heap), (K w.params).In h → h.Ns mainGlobals mg → mg d.name = some (.ref fa) → ∃ fd : FuncData, (∀ (s : Shared) (u : Value), BindsTo s fd { pos := [u] } [(x, u)]) ∧ ∀ base : Heap, (K w.params).In base → base.Ns mainGlobals mg → FnG l.prog w (K w.params) mg base k fa fd [x] (sp w))
    (hsp : ∀ (w : World) (H : Hp) (a : Addr) (ns : List Int), ns.length ≤ n → Only H → SqL (K w.params) H a (ns.map V.int) → sp w [.ref a] H (fun v _ => v = .bl true) E0) :
    PySem.W.WalkO q loose XP YP l.row.toRowW d [] fun f vs => call f vs :=
  Att.attach_call hn hdf fun w s₀ s₁ mg mb fa o pm cd doc a vs ns G Y ho hd hcd hmg hobj hints hlen hg => by
    have KX := hY w s₁.heap Y
    obtain ⟨fd, hb, hF⟩ := F w mg fa s₁.heap KX G.T.g hmg
    exact law_callG KX G.T.g G.T.b G.T.builtins G.T.nolimit hg hobj hints (Nat.le_trans hlen hn2) hr hF hb fun H hO hS => hsp w H a ns hlen hO hS
end M

namespace M
open PySem PySem.Spec PyProof.Rows L2
section
variable {X : Cx} {pos : Pos} {ro : List Nat}
/-! ### tests -/
def tval (a : DE) : DT := fun s Q => a s fun x s1 => ∃ c, x = .bl c ∧ Q c s1
theorem mt_val {e : Expr} {w : DE} (h : ME X e w) (he : ∀ whole : Sem Value, PySem.isTrue e X.env whole = (do
    let v ← whole
    standAt e.pos
    holding [v] (truthy v)) := by intro _; rfl) : MT X e (tval w) := ⟨fun {F H M σ ds Q} w0 s0 q => to_wT (pt_val (pe_w e) he) ((h.run w0 s0 (Q := fun x s1 => ∃ c, x = .bl c ∧ Q c s1) q).imp fun v H1 h1 => resT_bl h1)⟩
/-- what is empty, nought, None -/
def truD : D → Option Bool
  | .non => some false
  | .bl b => some b
  | .int i => some (i != 0)
  | .str y => if y.length ≤ sizeLine then some ((y.length : Nat) != 0) else none
  | .tup xs => some (!xs.isEmpty)
  | .lst _ xs => some (!xs.isEmpty)
  | .frl xs => some (!xs.isEmpty)
  | .dK true kvs => some (!kvs.isEmpty)
  | _ => none
theorem isEmpty_len {α β : Type} {xs : List α} {ys : List β} (h : xs.length = ys.length) : xs.isEmpty = ys.isEmpty := by
  cases xs <;> cases ys <;> simp_all
theorem truD_v {K : PySem.W.Frag} {F H : Hp} (w : Sub F H) {d : D} {v : V} {M : List Addr} {c : Bool} (r : Rp K F H d v M) (e : truD d = some c) : TruV K v H c := by
  cases r with
  | non => cases e; rfl
  | bl b => cases e; rfl
  | int i => cases e; rfl
  | str y =>
    have e' : (if y.length ≤ sizeLine then some ((y.length : Nat) != 0) else none) = some c := e
    by_cases h : y.length ≤ sizeLine
    · rw [if_pos h] at e'
      cases e'
      refine ⟨h, ?_⟩
      show ((y.length : Nat) != 0) = (((y.length : Nat) : Int) != 0)
      cases y.length <;> rfl
    · rw [if_neg h] at e'
      cases e'
  | tup q l => cases e; exact .inr (.inl ⟨_, sub_sqT w q, by rw [isEmpty_len l.len]⟩)
  | lstF q l => cases e; exact .inl ⟨_, sub_sqL w (.inl (.inl q)), by rw [isEmpty_len l.len]⟩
  | lstO q l => cases e; exact .inl ⟨_, .inl (.inl q), by rw [isEmpty_len l.len]⟩
  | frl q l => cases e; exact .inl ⟨_, sub_sqL w q, by rw [isEmpty_len l.len]⟩
  | dKO q ek l =>
    cases e
    refine .inr (.inr ⟨_, q, ?_⟩)
    have := congrArg List.length ek
    rw [List.length_map, List.length_map] at this
    rw [isEmpty_len this]
  | _ => cases e
def ttru (a : DE) : DT := fun s Q => a s fun x s1 => ∃ c, truD x = some c ∧ Q c s1
theorem mt_tru {e : Expr} {w : DE} (h : ME X e w) (he : ∀ whole : Sem Value, PySem.isTrue e X.env whole = (do
    let v ← whole
    standAt e.pos
    holding [v] (truthy v)) := by intro _; rfl) : MT X e (ttru w) := ⟨fun {F H M σ ds Q} w0 s0 q => to_wT (pt_truth (pe_w e) he) ((h.run w0 s0 (Q := fun x s1 => _) q).imp fun v H1 ⟨d, ds1, F1, N, M1, w1, t1, r1, s1, c, ec, k1⟩ =>
  ⟨c, truD_v w1.sub r1 ec, ds1, F1, M1, w1.part (List.sublist_append_right _ _), t1.drop fun a h => List.mem_append_right _ h, s1, k1⟩)⟩
def tand (a b : DT) : DT := fun s Q => a s fun c s1 => if c = true then b s1 Q else Q false s1
def tor (a b : DT) : DT := fun s Q => a s fun c s1 => if c = true then Q true s1 else b s1 Q
def tnot (a : DT) : DT := fun s Q => a s fun c s1 => Q (!c) s1
theorem mw_1 {op : BoolOp} {a : Expr} {t : DT} (h : MT X a t) : MW X (.BoolOp op [a] pos) t := ⟨fun w0 s0 q => by
  cases op with
  | And => exact to_wW (pw_and1 (pt_w a)) (h.run w0 s0 q)
  | Or => exact to_wW (pw_or1 (pt_w a)) (h.run w0 s0 q)⟩
theorem mw_and {a b : Expr} {rest : List Expr} {t u : DT} (h : MT X a t) (h2 : MW X (.BoolOp .And (b :: rest) pos) u) : MW X (.BoolOp .And (a :: b :: rest) pos) (tand t u) := ⟨fun {F H M σ ds Q} w0 s0 q => by
  refine to_wW (pw_and (pt_w a) (pw_w _)) ?_
  refine (h.run w0 s0 (Q := fun c s1 => _) q).imp fun c H1 ⟨ds1, F1, M1, w1, t1, s1, k1⟩ => ?_
  cases c with
  | true => exact (h2.run w1 s1 k1).imp fun _ _ h => h.step w0 w1 t1
  | false => exact ⟨ds1, F1, M1, w1, t1, s1, k1⟩⟩
theorem mw_or {a b : Expr} {rest : List Expr} {t u : DT} (h : MT X a t) (h2 : MW X (.BoolOp .Or (b :: rest) pos) u) : MW X (.BoolOp .Or (a :: b :: rest) pos) (tor t u) := ⟨fun {F H M σ ds Q} w0 s0 q => by
  refine to_wW (pw_or (pt_w a) (pw_w _)) ?_
  refine (h.run w0 s0 (Q := fun c s1 => _) q).imp fun c H1 ⟨ds1, F1, M1, w1, t1, s1, k1⟩ => ?_
  cases c with
  | false => exact (h2.run w1 s1 k1).imp fun _ _ h => h.step w0 w1 t1
  | true => exact ⟨ds1, F1, M1, w1, t1, s1, k1⟩⟩
theorem mt_mw {e : Expr} {t : DT} (h : MW X e t) : MT X e t := ⟨fun w0 s0 q => to_wT (PW.pt (pw_w e)) (h.run w0 s0 q)⟩
theorem mt_not {a : Expr} {t : DT} (h : MT X a t) : MT X (.UnaryOp .Not a pos) (tnot t) := ⟨fun {F H M σ ds Q} w0 s0 q => to_wT (pt_not (pt_w a)) ((h.run w0 s0 (Q := fun c s1 => _) q).imp fun c H1 ⟨ds1, F1, M1, w1, t1, s1, k1⟩ => ⟨ds1, F1, M1, w1, t1, s1, k1⟩)⟩

/-! ### two comparisons in a row -/
def wchain (o o' : Op2) (a b c : Opd) : DE := fun s Q => evO a s fun t s1 => evO b s1 fun u s2 => ∃ x y, t.at s2 = some x ∧ u.at s2 = some y ∧ on x = true ∧ on y = true ∧ o x y fun z => ∃ k, z = .bl k ∧ if k = true then evO c s2 fun r s3 => ∃ y' z', u.at s3 = some y' ∧ r.at s3 = some z' ∧ on y' = true ∧ on z' = true ∧ o' y' z' fun e => Q e s3 else Q (.bl false) s2
theorem chain_core {op op' : CmpOp} {o o' : Op2} {a b c : Expr} {oa ob oc : Opd} (ho : OpM X (compareOp op) o) (ho' : OpM X (compareOp op') o') (ha : MO X a oa) (hb : MO X b ob) (hc : MO X c oc) {F H : Hp} {M : List Addr} {σ : L2.St} {ds : DS} {Q : D → DS → Prop} {kf : VK} (w0 : Wd F H M) (s0 : SR X.K F H ds σ M) (q : wchain o o' oa ob oc ds Q) (hk : ∀ z H', Res X σ F H M Q z H' → kf z H') :
    tChain (fun v u H Q => ∃ r, OpR X (compareOp op) r ∧ r v u H Q) (fun v u H Q => ∃ r, OpR X (compareOp op') r ∧ r v u H Q) (wE X a) (wE X b) (wE X c) σ H kf := by
  refine (ha.run w0 s0 (k := fun t s1 => _) q).imp fun v H1 ⟨t, ds1, F1, N, M1, w1, t1, r1, s1, k1⟩ => ?_
  refine (hb.run (w1.part (List.sublist_append_right _ _)) s1 (k := fun t s1 => _) k1).imp fun u H2 ⟨t', ds2, F2, N2, M2, w2, t2, r2, s2, k2⟩ => ?_
  have n := next w0 w1 t1 w2 t2
  obtain ⟨x, y, e1, e2, o1, o2, k2⟩ := k2
  obtain ⟨A, ra, sa⟩ := (r1.mono n.up n.same).look s2 e1 (on_ne o1)
  obtain ⟨B, rb, sb⟩ := r2.look s2 e2 (on_ne o2)
  refine ho n.wd ra rb (fun a h => by have := sa a h; simp only [List.mem_append] at this ⊢; rcases this with h | h <;> simp [h]) (fun a h => by have := sb a h; simp only [List.mem_append] at this ⊢; rcases this with h | h <;> simp [h]) k2 fun z H3 m => ?_
  obtain ⟨d, F3, N3, w3, t3, r3, kk, ed, k3⟩ := m
  subst ed
  obtain ⟨rfl, rfl⟩ := res_bl r3
  refine ⟨kk, rfl, ?_⟩
  have b3 := frame (A := []) (R := (N ++ N2) ++ M2) n.wd t3 w3
  have wd3 : Wd F3 H3 ((N ++ N2) ++ M2) := b3.wd
  have tr3 : Tr F H M F3 H3 ((N ++ N2) ++ M2) := n.tr.trans w0 n.wd b3.tr
  have s3 := s2.mono t3.up fun a h => b3.same a (List.mem_append_right _ h)
  cases kk with
  | false =>
    exact hk _ _ (Res.step w0 (wd3.part (List.sublist_append_right _ _)) (tr3.drop fun a h => List.mem_append_right _ h) (res_c (wd3.part (List.sublist_append_right _ _)) s3 (.bl false) k3))
  | true =>
    have r2' := r2.mono t3.up fun a h => b3.same a (List.mem_append_left _ (List.mem_append_right _ h))
    have sub4 : (N2 ++ M2).Sublist ((N ++ N2) ++ M2) := by rw [List.append_assoc]; exact List.sublist_append_right _ _
    have wd4 := wd3.part sub4
    have tr4 := tr3.drop (C := N2 ++ M2) fun a h => sub4.subset h
    refine (hc.run (wd4.part (List.sublist_append_right _ _)) s3 (k := fun t s1 => _) k3).imp fun w' H4 ⟨r, ds4, F4, N4, M4, w5, t5, r5, s5, k5⟩ => ?_
    have n5 := next w0 wd4 tr4 w5 t5
    obtain ⟨y', z', e3, e4, o3, o4, k5⟩ := k5
    obtain ⟨B', rb', sb'⟩ := (r2'.mono n5.up n5.same).look s5 e3 (on_ne o3)
    obtain ⟨C', rc', sc'⟩ := r5.look s5 e4 (on_ne o4)
    exact ho' n5.wd rb' rc' (fun a h => by have := sb' a h; simp only [List.mem_append] at this ⊢; rcases this with h | h <;> simp [h]) (fun a h => by have := sc' a h; simp only [List.mem_append] at this ⊢; rcases this with h | h <;> simp [h]) k5
      fun z H6 m => hk _ _ (made_res w0 n5.wd n5.tr s5 m)
theorem me_chain {op op' : CmpOp} {o o' : Op2} {a b c : Expr} {oa ob oc : Opd} (ho : OpM X (compareOp op) o) (ho' : OpM X (compareOp op') o') (ha : MO X a oa) (hb : MO X b ob) (hc : MO X c oc) (hl : lastMarks [op, op'] [b, c] = false := by rfl) : ME X (.Compare a [op, op'] [b, c] pos) (wchain o o' oa ob oc) :=
  ⟨fun w0 s0 q => to_wE (pe_chain (opU _) (opU _) (pe_w a) (pe_w b) (pe_w c) hl) (chain_core ho ho' ha hb hc w0 s0 q fun _ _ h => h)⟩
def tchain (o o' : Op2) (a b c : Opd) : DT := fun s Q => wchain o o' a b c s fun x s1 => ∃ k, x = .bl k ∧ Q k s1
theorem mt_chain {op op' : CmpOp} {o o' : Op2} {a b c : Expr} {oa ob oc : Opd} (ho : OpM X (compareOp op) o) (ho' : OpM X (compareOp op') o') (ha : MO X a oa) (hb : MO X b ob) (hc : MO X c oc) (hl : lastMarks [op, op'] [b, c] = false := by rfl) : MT X (.Compare a [op, op'] [b, c] pos) (tchain o o' oa ob oc) :=
  ⟨fun w0 s0 q => to_wT (pt_chain (opU _) (opU _) (pe_w a) (pe_w b) (pe_w c) hl) (chain_core ho ho' ha hb hc w0 s0 q fun _ _ h => resT_bl h)⟩

/-! ### x or y, by what x is -/
def worT (a b : DE) : DE := fun s Q => a s fun x s1 => ∃ c, truD x = some c ∧ if c = true then Q x s1 else b s1 Q
theorem me_orT {a b : Expr} {wa wb : DE} (ha : ME X a wa) (hb : ME X b wb) : ME X (.BoolOp .Or [a, b] pos) (worT wa wb) := ⟨fun {F H M σ ds Q} w0 s0 q => by
  refine to_wE (pe_orT (pe_w a) (pe_one (pe_w b))) ?_
  refine (ha.run w0 s0 (Q := fun x s1 => _) q).imp fun v H1 ⟨d, ds1, F1, N, M1, w1, t1, r1, s1, c, ec, k1⟩ => ?_
  refine ⟨c, truD_v w1.sub r1 ec, ?_⟩
  cases c with
  | true => exact ⟨d, ds1, F1, N, M1, w1, t1, r1, s1, k1⟩
  | false =>
    have w1' := w1.part (List.sublist_append_right N M1)
    have t1' := t1.drop (C := M1) fun a h => List.mem_append_right _ h
    exact (hb.run w1' s1 k1).imp fun v' H' h => h.step w0 w1' t1'⟩

/-! ### while -/
def wwhile (t : DT) (b : DSt) : DSt := fun E s => ∃ I : Nat → DS → Prop, (∃ m, I m s) ∧ ∀ m s, I m s → t s fun c s1 => if c = true then b ⟨fun s2 => ∃ m', m' < m ∧ I m' s2, E.rt, E.nx, fun s2 => ∃ m', m' < m ∧ I m' s2⟩ s1 else E.nx s1
theorem ms_while {c : Expr} {body : List Stmt} {t : DT} {b : DSt} (hc : MT X c t) (hb : MSs X ro body b) (hp : PassesOwn (model X.prog X.w) X.A X.env X.xe) : MS X ro (.While c body [] pos) (wwhile t b) := ⟨fun {F H M σ ds E} w0 s0 q => by
  obtain ⟨I, ⟨m0, i0⟩, step⟩ := q
  refine to_wS (ps_while hp (pt_w c) (pss_w body)) ⟨fun m σ' H' => AtS X ro σ F H M (I m) σ' H', ⟨m0, AtS.here w0 s0 i0⟩, fun m σ1 H1 h => ?_⟩
  obtain ⟨ds1, F1, M1, w1, t1, s1, p1, k1⟩ := h
  refine (hc.run w1 s1 (Q := fun c s1 => _) (step m ds1 k1)).imp fun v H2 ⟨ds2, F2, M2, w2, t2, s2, k2⟩ => ?_
  have t02 := t1.trans w0 w1 t2
  cases v with
  | false => exact ⟨ds2, F2, M2, w2, t02, s2, p1, k2⟩
  | true =>
    refine ⟨fun σ' H' => ∃ m', m' < m ∧ AtS X ro σ F H M (I m') σ' H', fun σ' H' h => h, ?_⟩
    refine wSs.imp (hb.run w2 s2 k2) ?_ ?_ ?_ ?_
    · rintro σ' H' ⟨ds', F', M', w', t', s', p', m', hm, k'⟩
      exact ⟨m', hm, ds', F', M', w', t02.trans w0 w2 t', s', p1.trans p', k'⟩
    · intro v H' h; exact h.step w0 w2 t02 p1
    · intro σ' H' h; exact h.step w0 w2 t02 p1
    · rintro σ' H' ⟨ds', F', M', w', t', s', p', m', hm, k'⟩
      exact ⟨m', hm, ds', F', M', w', t02.trans w0 w2 t', s', p1.trans p', k'⟩⟩

/-! ### what the top has written: whole numbers -/
theorem me_gint {x : Str} {i : Int} (h : ∃ t, X.mg x = some (.int i t)) (hg : Gl X x := by rfl) (hdb : (x == ("__debug__" : Str)) = false := by decide) : ME X (.Name x pos) (wc (.int i)) := ⟨fun {F H M σ ds Q} w0 s0 q => by
  obtain ⟨t, hm⟩ := h
  exact to_wE (pe_glob (v := .int i) hg hm ⟨t, rfl⟩ hdb) (res_c w0 s0 (.int i) q)⟩

/-! ### list(range(..)) -/
def wlrg2 (a b : DE) : DE := fun s Q => a s fun x s1 => b s1 fun y s2 => ∃ i j, x = .int i ∧ y = .int j ∧ RgOk i j ∧ Q (.lst true (rangeD i (j - i).toNat)) s2
theorem rgV_rp {K : PySem.W.Frag} {F H : Hp} (i : Int) : ∀ l : List Nat, RpL K F H (l.map fun k => D.int (i + (k : Nat))) (l.map fun k => V.int (i + (k : Nat))) []
  | [] => .nil
  | k :: l => .cons (M := []) (N := []) (.int _) (rgV_rp i l)
theorem me_lrg2 {a b : Expr} {wa wb : DE} {p pr posr : Pos} (hc : X.calm = true) (hml : X.mg "list" = none) (hmr : X.mg "range" = none) (ha : ME X a wa) (hb : ME X b wb) (hgl : Gl X "list" := by rfl) (hgr : Gl X "range" := by rfl)
    (h0 : starEach [.Call (.Name "range" pr) [a, b] [] posr] X.env = (false, eval (.Call (.Name "range" pr) [a, b] [] posr) X.env) :: starEach [] X.env := by rfl)
    (h1 : starEach [a, b] X.env = (false, eval a X.env) :: starEach [b] X.env := by rfl) (h2 : starEach [b] X.env = (false, eval b X.env) :: starEach [] X.env := by rfl) (h3 : ((backTo posr (starEach [b] X.env)).any fun x => x.fst) = false := by rfl) :
    ME X (.Call (.Name "list" p) [.Call (.Name "range" pr) [a, b] [] posr] [] pos) (wlrg2 wa wb) := ⟨fun {F H M σ ds Q} w0 s0 q => by
  refine to_wE (pe_listRg hc hgl hml (prg_2 hgr hmr (pe_w a) (pe_w b) h1 h2 h3) h0) ?_
  refine (ha.run w0 s0 (Q := fun x s1 => _) q).imp fun v H1 ⟨d, ds1, F1, N, M1, w1, t1, r1, s1, k1⟩ => ?_
  refine (hb.run (w1.part (List.sublist_append_right _ _)) s1 (Q := fun x s1 => _) k1).imp fun u H2 ⟨d', ds2, F2, N2, M2, w2, t2, r2, s2, i, j, e1, e2, hok, k2⟩ => ?_
  subst e1 e2
  obtain ⟨rfl, rfl⟩ := r1.of_int
  obtain ⟨rfl, rfl⟩ := r2.of_int
  have n := next w0 w1 t1 w2 t2
  refine ⟨i, j, rfl, rfl, hok, fun q hq => ?_⟩
  obtain ⟨w3, t3, e3⟩ := new_own (o := .lst (rgV i j)) n.wd hq
  refine ⟨_, ds2, F2, [q], M2, w3, n.tr.trans w0 n.wd t3, .lstO upd_same ?_, s2.mono (fun _ _ h => h) fun a h => e3 a h, k2⟩
  exact rgV_rp i _⟩
end
end M

namespace M
open PySem PySem.Spec PyProof.Rows L2
section
variable {X : Cx} {pos : Pos} {ro : List Nat}
/-! ### slices -/
def cutD (xs : List D) (lo hi : Option Int) : List D := (xs.drop (HT.sIx xs.length 0 lo)).take (HT.sIx xs.length xs.length hi - HT.sIx xs.length 0 lo)
def o_sl (x : D) (lo hi : Option Int) (Q : D → Prop) : Prop := match x with
  | .tup xs => fzL xs = xs ∧ Q (.tup (cutD xs lo hi))
  | .str z => z.length ≤ sizeLine ∧ Q (.str (cutS z lo hi))
  | x => ∃ xs, lstOf x = some xs ∧ fzL xs = xs ∧ Q (.lst true (cutD xs lo hi))
theorem slU : SlR X (fun x lo hi H Q => ∃ r, SlR X r ∧ r x lo hi H Q) := fun pins s σ H x v vl vu lo hi sl Q I rx h1 h2 h3 ⟨r, h, q⟩ => h pins s σ H x v vl vu lo hi sl Q I rx h1 h2 h3 q
theorem cut_rp {K : PySem.W.Frag} {F H : Hp} {xs : List D} {vs : List V} {N : List Addr} (l : RpL K F H xs vs N) (e : fzL xs = xs) (lo hi : Option Int) : RpL K F H (cutD xs lo hi) (cutV vs lo hi) [] := by
  unfold cutD cutV
  rw [l.len]
  exact ((l.ice0 e).drop0 _).take0 _
theorem sl_core {F H : Hp} {M A : List Addr} {x : D} {v : V} {lo hi : Option Int} {Q : D → Prop} {k : VK} (w : Wd F H M) (rx : Rp X.K F H x v A) (o : o_sl x lo hi Q) (h : ∀ z H', Made X F H Q z H' → k z H') : ∃ r, SlR X r ∧ r v lo hi H k := by
  have gen : (∃ xs, lstOf x = some xs ∧ fzL xs = xs ∧ Q (.lst true (cutD xs lo hi))) → ∃ r, SlR X r ∧ r v lo hi H k := fun ⟨xs, e0, e1, o⟩ => by
    obtain ⟨a, us, _, rfl, q1, l1, _⟩ := rx.seq w.sub e0
    exact ⟨_, sl_list, a, us, rfl, q1, fun p hp => h _ _ (made_lst w hp (cut_rp l1 e1 lo hi) o)⟩
  cases x with
  | tup xs =>
    obtain ⟨e1, o⟩ := o
    obtain ⟨a, us, rfl, q1, l1⟩ := rx.tpl w.sub
    refine ⟨_, sl_tupA, a, us, rfl, q1, fun ⟨h1, h2⟩ => ?_, fun _ p hp => h _ _ (made_tup w hp (cut_rp l1 e1 lo hi) o)⟩
    have : cutD xs lo hi = xs := by
      unfold cutD
      rw [l1.len, h1, h2, List.drop_zero, Nat.sub_zero, ← l1.len, List.take_length]
    rw [this] at o
    exact h _ _ (made0 w (rx.ice0 (by rw [fz, e1])) o)
  | str z =>
    obtain ⟨e1, o⟩ := o
    obtain ⟨rfl, _⟩ := rx.of_str
    exact ⟨_, sl_str, z, rfl, e1, h _ _ (made_str w o)⟩
  | non => exact gen o
  | bl _ => exact gen o
  | int _ => exact gen o
  | lst _ _ => exact gen o
  | frl _ => exact gen o
  | dK _ _ => exact gen o
  | dT _ _ => exact gen o
  | ins _ _ _ => exact gen o
  | rng _ _ => exact gen o
  | hole _ => exact gen o
  | off => exact gen o
abbrev DP := DS → (Option Int → DS → Prop) → Prop
def wpn : DP := fun s k => k none s
def wps (a : DE) : DP := fun s k => a s fun x s1 => ∃ i, x = .int i ∧ k (some i) s1
structure MP (X : Cx) (e : Option Expr) (p : DP) : Prop where
  run : ∃ t, PO X e t ∧ ∀ {F H : Hp} {M : List Addr} {σ : L2.St} {ds : DS} {k : Option Int → DS → Prop}, Wd F H M → SR X.K F H ds σ M → p ds k → t σ H (fun o H' => ∃ ds' F' M', Wd F' H' M' ∧ Tr F H M F' H' M' ∧ SR X.K F' H' ds' σ M' ∧ k o ds')
theorem mp_none : MP X none wpn := ⟨_, po_none, fun {F H M σ ds k} w s q => ⟨ds, F, M, w, Tr.refl F H M, s, q⟩⟩
theorem mp_some {e : Expr} {a : DE} (h : ME X e a) : MP X (some e) (wps a) := ⟨_, po_some (pe_w e), fun {F H M σ ds k} w0 s0 q => (h.run w0 s0 (Q := fun x s1 => _) q).imp fun v H1 ⟨d, ds1, F1, N, M1, w1, t1, r1, s1, i, ei, k1⟩ => by
  subst ei
  obtain ⟨rfl, rfl⟩ := r1.of_int
  exact ⟨i, rfl, ds1, F1, M1, w1, t1, s1, k1⟩⟩
def wsl (a : Opd) (lo hi : DP) : DE := fun s Q => evO a s fun t s1 => lo s1 fun l s2 => hi s2 fun u s3 => ∃ x, t.at s3 = some x ∧ on x = true ∧ o_sl x l u fun z => Q z s3
theorem me_sl {e : Expr} {lo hi : Option Expr} {oa : Opd} {pl ph : DP} {p2 : Pos} (ha : MO X e oa) (hl : MP X lo pl) (hh : MP X hi ph) : ME X (.Subscript e (.Slice lo hi none p2) pos) (wsl oa pl ph) := ⟨fun {F H M σ ds Q} w0 s0 q => by
  obtain ⟨tl, hpl, rl⟩ := hl.run
  obtain ⟨th, hph, rh⟩ := hh.run
  have hpl' : PO X lo (fun σ H Q => ∃ k, tl σ H k ∧ ∀ o H', k o H' → Q o H') := ⟨fun pins s σ H Q I ⟨k, q, kk⟩ => thn (hpl.run pins s σ H k I q) fun u s' ⟨o, H', I', p', q'⟩ => ⟨o, H', I', p', kk o H' q'⟩⟩
  have hph' : PO X hi (fun σ H Q => ∃ k, th σ H k ∧ ∀ o H', k o H' → Q o H') := ⟨fun pins s σ H Q I ⟨k, q, kk⟩ => thn (hph.run pins s σ H k I q) fun u s' ⟨o, H', I', p', q'⟩ => ⟨o, H', I', p', kk o H' q'⟩⟩
  refine to_wE (pe_slice slU (pe_w e) hpl' hph') ?_
  refine (ha.run w0 s0 (k := fun t s1 => _) q).imp fun v H1 ⟨t, ds1, F1, N, M1, w1, t1, r1, s1, k1⟩ => ?_
  refine ⟨_, rl (w1.part (List.sublist_append_right _ _)) s1 k1, fun l H2 ⟨ds2, F2, M2, w2, t2, s2, k2⟩ => ?_⟩
  have n2 := next (N2 := []) w0 w1 t1 w2 t2
  refine ⟨_, rh w2 s2 k2, fun u H3 ⟨ds3, F3, M3, w3, t3, s3, k3⟩ => ?_⟩
  have w2' : Wd F2 H2 (N ++ M2) := by have := n2.wd; rw [List.append_nil] at this; exact this
  have t2' : Tr F H M F2 H2 (N ++ M2) := by have := n2.tr; rw [List.append_nil] at this; exact this
  have n3 := next (N2 := []) w0 w2' t2' w3 t3
  obtain ⟨x, e1, o1, k3⟩ := k3
  obtain ⟨A, ra, sa⟩ := ((r1.mono n2.up n2.same).mono n3.up n3.same).look s3 e1 (on_ne o1)
  exact sl_core n3.wd ra k3 fun z H4 m => made_res w0 n3.wd n3.tr s3 m⟩

/-! ### dict displays with texts written as keys -/
abbrev wdK (ks : List Key) (r : DA) : DE := fun s Q => r s fun xs s1 => Q (.dK true (ks.zip xs)) s1
structure MPs (X : Cx) (pos : Pos) (keys : List (Option Expr)) (values : List Expr) (ks : List Key) (r : DA) : Prop where
  run : ∃ es : List (Expr × Expr), PPs X pos keys values (es.map fun e => (wE X e.1, wE X e.2)) ∧ keys.length = ks.length ∧ values.length = ks.length ∧ (keys.all fun x => x.isSome) = true ∧ ∀ {F H : Hp} {M : List Addr} {σ : L2.St} {ds : DS} {k : List D → DS → Prop}, Wd F H M → SR X.K F H ds σ M → r ds k →
    tPairs (es.map fun e => (wE X e.1, wE X e.2)) σ H (fun ps H' => ∃ xs vs ds' F' N M', ps = (ks.zip vs).map (fun kv => (kV kv.1, kv.2)) ∧ vs.length = ks.length ∧ Wd F' H' (N ++ M') ∧ Tr F H M F' H' (N ++ M') ∧ RpL X.K F' H' xs vs N ∧ SR X.K F' H' ds' σ M' ∧ k xs ds')
theorem mps_nil : MPs X pos [] [] [] wnil := ⟨[], pps_nil, rfl, rfl, rfl, fun {F H M σ ds k} w s q => ⟨[], [], ds, F, [], M, rfl, rfl, w, Tr.refl F H M, .nil, s, q⟩⟩
theorem tPairs_imp : ∀ {es : List (Expr × Expr)} {σ : L2.St} {H : Hp} {Q Q' : List (V × V) → Hp → Prop}, tPairs (es.map fun e => (wE X e.1, wE X e.2)) σ H Q → (∀ ps H', Q ps H' → Q' ps H') → tPairs (es.map fun e => (wE X e.1, wE X e.2)) σ H Q'
  | [], _, _, _, _, h, k => k _ _ h
  | (a, b) :: es, _, _, _, _, h, k => wE.imp h fun _ _ h => wE.imp h fun _ _ h => tPairs_imp (es := es) h fun _ _ h => k _ _ h
theorem mps_cons {x : Str} {v : Expr} {keys : List (Option Expr)} {values : List Expr} {ks : List Key} {a : DE} {r : DA} {j : Nat} {p : Pos} (h1 : ME X v a) (h2 : MPs X pos keys values ks r) : MPs X pos (some (.Constant (.str x) j p) :: keys) (v :: values) (.inr x :: ks) (wcons a r) := by
  obtain ⟨es, hp, l1, l2, l3, run⟩ := h2.run
  refine ⟨(.Constant (.str x) j p, v) :: es, pps_cons (pe_w _) (pe_w v) hp, congrArg (· + 1) l1, congrArg (· + 1) l2, by rw [List.all_cons, l3]; rfl, fun {F H M σ ds k} w0 s0 q => ?_⟩
  refine to_wE pe_str (show (wE X v σ H fun y H2 => _) from ?_)
  refine (h1.run w0 s0 (Q := fun x s1 => _) q).imp fun u H1 ⟨d, ds1, F1, N, M1, w1, t1, r1, s1, k1⟩ => ?_
  refine tPairs_imp (run (w1.part (List.sublist_append_right _ _)) s1 k1) fun ps H2 ⟨xs, vs, ds2, F2, N2, M2, eps, hl, w2, t2, r2, s2, k2⟩ => ?_
  have n := next w0 w1 t1 w2 t2
  exact ⟨d :: xs, u :: vs, ds2, F2, N ++ N2, M2, by rw [eps]; rfl, congrArg (· + 1) hl, n.wd, n.tr, .cons (r1.mono n.up n.same) r2, s2, k2⟩
theorem putK_new {κ : Type} [DecidableEq κ] {xs : List (κ × V)} {k : κ} {v : V} (h : k ∉ xs.map (·.1)) : putK xs k v = xs ++ [(k, v)] := by
  unfold L2.putK
  rw [if_neg]
  intro z
  rw [List.any_eq_true] at z
  obtain ⟨p, hp, e⟩ := z
  have e' : p.1 = k := of_decide_eq_true e
  exact h (e' ▸ List.mem_map_of_mem (f := (·.1)) hp)
theorem merge_new : ∀ {more acc : List (Key × V)}, ((acc ++ more).map (·.1)).Nodup → mergeK acc more = acc ++ more
  | [], acc, _ => by rw [List.append_nil]; rfl
  | (k, v) :: more, acc, nd => by
    have hk : k ∉ acc.map (·.1) := fun h => by
      rw [List.map_append, List.nodup_append] at nd
      exact nd.2.2 k h k List.mem_cons_self rfl
    have e : mergeK acc ((k, v) :: more) = mergeK (putK acc k v) more := rfl
    rw [e, putK_new hk, merge_new (by rw [List.append_assoc]; exact nd), List.append_assoc]
    rfl
theorem zip_1 {α β : Type} : ∀ {ks : List α} {vs : List β}, vs.length = ks.length → (ks.zip vs).map (·.1) = ks
  | [], [], _ => rfl
  | [], _ :: _, h => by cases h
  | _ :: _, [], h => by cases h
  | k :: ks, v :: vs, h => by rw [List.zip_cons_cons, List.map_cons, zip_1 (by simpa using h)]
theorem zip_2 {α β : Type} : ∀ {ks : List α} {vs : List β}, vs.length = ks.length → (ks.zip vs).map (·.2) = vs
  | [], [], _ => rfl
  | [], _ :: _, h => by cases h
  | _ :: _, [], h => by cases h
  | k :: ks, v :: vs, h => by rw [List.zip_cons_cons, List.map_cons, zip_2 (by simpa using h)]
theorem me_dict {keys : List (Option Expr)} {values : List Expr} {ks : List Key} {r : DA} (h : MPs X pos keys values ks r) (nd : ks.Nodup := by decide) (h0 : keys ≠ [] := by exact fun z => nomatch z) (h15 : keys.length ≤ 15 := by decide) : ME X (.Dict keys values pos) (wdK ks r) := ⟨fun {F H M σ ds Q} w0 s0 q => by
  obtain ⟨es, hp, l1, l2, l3, run⟩ := h.run
  refine to_wE (pe_disp hp l3 (l1.trans l2.symm) h0 h15) fun p hp => ?_
  obtain ⟨w1, t1, e1⟩ := new_own (o := .dK []) w0 hp
  have w1' : Wd F (upd H p (.dK [])) (M ++ [p]) := w1.perm List.perm_append_comm
  have s1 := s0.mono (fun _ _ h => h) fun a h => e1 a h
  refine tPairs_imp (run (w1'.part (List.sublist_append_left _ _)) s1 q) fun ps H2 ⟨xs, vs, ds2, F2, N2, M2, eps, hl, w2, t2, r2, s2, k2⟩ => ?_
  have b := frame w1' t2 w2
  have ep : H2 p = some (.dK []) := (b.same p List.mem_cons_self).trans upd_same
  refine ⟨ep, ks.zip vs, eps, ?_, ?_⟩
  · rw [List.length_zip, hl, Nat.min_self, ← l1]; exact h15
  · have em : mergeK [] (ks.zip vs) = ks.zip vs := merge_new (by rw [List.nil_append, zip_1 hl]; exact nd)
    rw [em]
    obtain ⟨w3, t3, e3⟩ := set_own (o := .dK (ks.zip vs)) b.wd (p := p) (List.mem_append_right _ List.mem_cons_self)
    have ne : ∀ a ∈ N2 ++ M2, a ≠ p := fun a h z => by
      subst z
      exact (List.nodup_append.mp b.wd.nd).2.2 a h a List.mem_cons_self rfl
    have hx : xs.length = ks.length := r2.len.trans hl
    have pp : (((p :: N2) ++ M2)).Perm ((N2 ++ M2) ++ [p]) := (List.perm_append_comm (l₁ := [p]) (l₂ := N2 ++ M2))
    have t01 : Tr F H M F (upd H p (.dK [])) (M ++ [p]) := t1.drop fun a h => (List.perm_append_comm (l₁ := M) (l₂ := [p])).mem_iff.mp h
    have tt := (t01.trans w0 w1' b.tr).trans w0 b.wd t3
    refine ⟨.dK true (ks.zip xs), ds2, F2, p :: N2, M2, w3.perm pp, tt.drop fun a h => pp.mem_iff.mp h, ?_, s2.mono (fun _ _ h => h) fun a h => e3 a (ne a (List.mem_append_right _ h)), k2⟩
    refine .dKO upd_same ((zip_1 hl).trans (zip_1 hx).symm) ?_
    rw [zip_2 hl, zip_2 hx]
    exact r2.mono (fun _ _ h => h) fun a h => e3 a (ne a (List.mem_append_left _ h))⟩

/-! ### isinstance with a type that is built in -/
def tagD : D → Option String
  | .non => some "NoneType" | .bl _ => some "bool" | .int _ => some "int" | .str _ => some "str" | .tup _ => some "tuple" | .lst _ _ => some "list" | .frl _ => some "list" | .dK _ _ => some "dict"
  | _ => none
def tags : List String := ["NoneType", "bool", "int", "str", "tuple", "list", "dict"]
theorem rd_ty {K : PySem.W.Frag} {F H : Hp} (w : Sub F H) {d : D} {v : V} {M : List Addr} {t : String} (r : Rp K F H d v M) (e : tagD d = some t) : TyX K H v (.type t) := by
  have L : ∀ {a : Addr} {vs : List V}, SqL K H a vs → TyX K H (.ref a) (.type "list") := fun q => by
    rcases q with (q | ⟨o, q⟩) | ⟨o, its, n, q, c, _⟩
    · exact .base (.lst q)
    · exact .base (.frz q)
    · exact .kList q c
  cases r with
  | non => cases e; exact .base .non
  | bl b => cases e; exact .base (.bl b)
  | int i => cases e; exact .base (.int i)
  | str x => cases e; exact .base (.str x)
  | tup q l =>
    cases e
    rcases sub_sqT w q with (q | ⟨o, q⟩) | ⟨o, its, n, q, c, _⟩
    · exact .base (.tup q)
    · exact .fTuple q
    · exact .kTuple q c
  | lstF q l => cases e; exact L (sub_sqL w (.inl (.inl q)))
  | lstO q l => cases e; exact L (.inl (.inl q))
  | frl q l => cases e; exact L (sub_sqL w q)
  | dKF q ek l =>
    cases e
    rcases w _ _ q with q | ⟨_, o, q⟩
    · exact .base (.dK q)
    · exact .fDict q
  | dKO q ek l => cases e; exact .base (.dK q)
  | _ => cases e
def isaD (T t : String) : Bool := decide (t = T) || (decide (t = "bool") && decide (T = "int"))
def wisi (T : String) (a : Opd) : DE := wop1 (fun x Q => ∃ t, tagD x = some t ∧ Q (.bl (isaD T t))) a
theorem tag_mem {d : D} {t : String} (h : tagD d = some t) : t ∈ tags := by
  cases d <;> cases h <;> decide
theorem me_isi {T : String} {x : Str} {e : Expr} {oa : Opd} {p pt : Pos} (ha : MO X e oa) (hm : X.mg "isinstance" = none) (hmt : X.mg x = none) (hT : bootBuiltins x = some (.type T)) (hk : ∀ t ∈ tags, PySem.W.kitOne X.K (.type t) (.type T) = some (isaD T t)) (hg : Gl X "isinstance" := by rfl) (hgt : Gl X x := by rfl)
    (hx : x ≠ "__name__" := by decide) (hdx : (x == ("__debug__" : Str)) = false := by decide)
    (hs : starEach [e, .Name x pt] X.env = (false, eval e X.env) :: starEach [.Name x pt] X.env := by rfl) (hs2 : starEach [.Name x pt] X.env = (false, eval (.Name x pt) X.env) :: starEach [] X.env := by rfl) (hpl : (backTo pos (starEach [.Name x pt] X.env)).any (·.1) = false := by rfl) :
    ME X (.Call (.Name "isinstance" p) [e, .Name x pt] [] pos) (wisi T oa) := ⟨fun {F H M σ ds Q} w0 s0 q => by
  refine to_wE (pe_callB call_isi hg hm (by decide +kernel) (pa_cons (pe_w e) (pa_cons (pe_bltn (v := .ty T) hgt hmt hT rfl hx hdx) pa_nil hs2) hs) (by decide) (by decide) hs hpl) ?_
  refine (ha.run w0 s0 (k := fun t s1 => _) q).imp fun v H1 ⟨tk, ds1, F1, N, M1, w1, t1, r1, s1, k1⟩ => ?_
  obtain ⟨y, e1, o1, t, et, k1⟩ := k1
  obtain ⟨A, ra, sa⟩ := r1.look s1 e1 (on_ne o1)
  refine ⟨v, .ty T, .type t, .type T, isaD T t, rfl, .ty T, rd_ty w1.sub ra et, hk t (tag_mem et), ?_⟩
  exact made_res w0 w1 t1 s1 (made_bl w1 k1)⟩
theorem isi_int {K : PySem.W.Frag} : ∀ t ∈ tags, PySem.W.kitOne K (.type t) (.type "int") = some (isaD "int" t) := by
  intro t h
  simp only [tags, List.mem_cons, List.not_mem_nil, or_false] at h
  rcases h with rfl | rfl | rfl | rfl | rfl | rfl | rfl <;> rfl
theorem isi_bool {K : PySem.W.Frag} : ∀ t ∈ tags, PySem.W.kitOne K (.type t) (.type "bool") = some (isaD "bool" t) := by
  intro t h
  simp only [tags, List.mem_cons, List.not_mem_nil, or_false] at h
  rcases h with rfl | rfl | rfl | rfl | rfl | rfl | rfl <;> rfl
theorem isi_list {K : PySem.W.Frag} : ∀ t ∈ tags, PySem.W.kitOne K (.type t) (.type "list") = some (isaD "list" t) := by
  intro t h
  simp only [tags, List.mem_cons, List.not_mem_nil, or_false] at h
  rcases h with rfl | rfl | rfl | rfl | rfl | rfl | rfl <;> rfl
theorem isi_tuple {K : PySem.W.Frag} : ∀ t ∈ tags, PySem.W.kitOne K (.type t) (.type "tuple") = some (isaD "tuple" t) := by
  intro t h
  simp only [tags, List.mem_cons, List.not_mem_nil, or_false] at h
  rcases h with rfl | rfl | rfl | rfl | rfl | rfl | rfl <;> rfl
theorem isi_str {K : PySem.W.Frag} : ∀ t ∈ tags, PySem.W.kitOne K (.type t) (.type "str") = some (isaD "str" t) := by
  intro t h
  simp only [tags, List.mem_cons, List.not_mem_nil, or_false] at h
  rcases h with rfl | rfl | rfl | rfl | rfl | rfl | rfl <;> rfl

/-! ### repr -/
def reprOk (p : PyData) : Prop := p.showable = true ∧ p.hasDict = false ∧ p.depth ≤ 100 ∧ p.shown.length ≤ sizeLine
theorem call_repr (hg : X.A.guards = some []) (hu : X.A.units + 102 < cLine) : CallR X (.builtin "repr") (fun vs H Q => ∃ v p, vs = [v] ∧ Dp X.K H v p ∧ reprOk p ∧ Q (.str p.shown) H) := by
  intro pins s σ H xs us Q I rv ⟨v, p, ev, dp, ⟨h1, h2, h3, h4⟩, q⟩
  subst ev
  cases rv with
  | cons ru rn =>
  cases rn
  rename_i u
  cases dp with
  | non =>
    cases ru
    exact PySem.P.repr_of_none ⟨.str _, H, I.tok _, ⟨_, rfl⟩, by simpa only [PyData.shown] using q⟩
  | bl b =>
    cases ru
    exact PySem.P.repr_of_bool ⟨.str _, H, I.tok _, ⟨_, rfl⟩, by simpa only [PyData.shown] using q⟩
  | int i =>
    obtain ⟨t, rfl⟩ := ru
    have hb : i.natAbs.log2 < 1920 := by
      have := h1
      simp only [PyData.showable, decide_eq_true_eq] at this
      exact this
    exact PySem.P.repr_of_int hb ⟨.str _, H, I.tok _, ⟨_, rfl⟩, by simpa only [PyData.shown] using q⟩
  | str x =>
    obtain ⟨t, rfl⟩ := ru
    have h4' : (reprText x).length ≤ sizeLine := by simpa only [PyData.shown] using h4
    exact PySem.P.repr_of_str ⟨.str _, H, I.tok _, ⟨_, rfl⟩, by simpa only [PyData.shown] using q⟩ h4'
  | lst sq da =>
    cases ru
    obtain ⟨as, rd⟩ := Dp.reads I _ _ _ (.lst sq da) rfl
    exact repr_of_reads' rd h1 (fun z => by rw [h2] at z; cases z) hg (by omega) (fun _ _ h => h) (fun h' u tk keep => ⟨.str _, H, I.kept keep, ⟨u, rfl⟩, q⟩) h4
  | tup sq da =>
    cases ru
    obtain ⟨as, rd⟩ := Dp.reads I _ _ _ (.tup sq da) rfl
    exact repr_of_reads' rd h1 (fun z => by rw [h2] at z; cases z) hg (by omega) (fun _ _ h => h) (fun h' u tk keep => ⟨.str _, H, I.kept keep, ⟨u, rfl⟩, q⟩) h4
def o_repr : OpL := fun xs Q => match xs with
  | [x] => ∃ p, toPy x = some p ∧ reprOk p ∧ Q (.str p.shown)
  | _ => False
theorem cm_repr (hg : X.A.guards = some []) (hu : X.A.units + 102 < cLine) : CallM X (.builtin "repr") o_repr := by
  intro F H M A xs vs Q k w rl sx o h
  match xs, o with
  | [x], ⟨p, ep, ok, q⟩ =>
    obtain ⟨v, rfl, r⟩ := rl.inv1
    exact ⟨_, call_repr hg hu, v, p, rfl, r.dp w.sub ep, ok, h _ _ (made_str w q)⟩
end
end M

namespace M
open PySem PySem.Spec PyProof.Rows L2
theorem u {k : Nat} {A : Around} (hr : Room k A) (n : Nat) (h : n ≤ 200 := by decide) : A.units + n < cLine := by
  have := hr.un
  omega
theorem not_roC {n i : Nat} {vs : List Nat} (h : i ∈ vs) : i ∉ roC n vs := fun z => by
  have := (List.mem_filter.mp z).2
  simp [h] at this
/-- a def of the program, where it stands -/
def Has (P : Program) (w : World) (K : PySem.W.Frag) (mg : Str → Option Value) (base : Heap) (k n : Nat) (x : Str) (ps : List Str) (W : FW) : Prop :=
  ∃ f fd, FnG P w K mg base k f fd ps (spM K n W) ∧ mg x = some (.ref f) ∧ PySem.W.keepIn K (.ref f) = true ∧ Binds K fd ps []
theorem me_callH {X : Cx} {k n : Nat} {ps : List Str} {W : FW} {x : Str} {p pos : Pos} {e : Expr} {es : List Expr} {as : List AE} (h : Has X.prog X.w X.K X.mg X.base k n x ps W) (hr : Room k X.A) (hgd : X.A.guards = some [])
    (ha : MAs X (e :: es) as) (hn : (e :: es).length = n := by rfl) (hg : Gl X x := by rfl) (hdb : (x == ("__debug__" : Str)) = false := by decide)
    (he : starEach (e :: es) X.env = (false, eval e X.env) :: starEach es X.env := by rfl) (hpl : (backTo pos (starEach es X.env)).any (·.1) = false := by rfl) : ME X (.Call (.Name x p) (e :: es) [] pos) (wcall W as) := by
  obtain ⟨f, fd, F, hm, kp, b⟩ := h
  exact me_callG F hr hgd hm kp b ha hn hg hdb he hpl
end M

namespace M
open PySem PySem.Spec PyProof.Rows L2
/-! ### to go through a term by rewriting -/
theorem onAt_0 {d : D} {s : DS} : onAt (d :: s) 0 = on d := by cases d <;> rfl
theorem onAt_s {d : D} {s : DS} {i : Nat} : onAt (d :: s) (i + 1) = onAt s i := by unfold onAt; rw [List.getElem?_cons_succ]
theorem ex_plN {i : Nat} {s : DS} {K : D → (D → DS) → Prop} : (∃ c g, plN i s = some (c, g) ∧ K c g) ↔ ∃ d, s[i]? = some d ∧ on d = true ∧ K d fun c => s.set i c := by
  constructor
  · rintro ⟨c, g, e, k⟩
    obtain ⟨e1, ho, rfl⟩ := plN_some e
    exact ⟨c, e1, by cases c <;> first | rfl | exact absurd rfl ho, k⟩
  · rintro ⟨d, e, o, k⟩
    refine ⟨d, _, ?_, k⟩
    unfold plN
    rw [e]
    cases d <;> first | rfl | cases o
theorem on_tup {xs : List D} : on (.tup xs) = true := rfl
theorem on_lst {o : Bool} {xs : List D} : on (.lst o xs) = true := rfl
theorem on_int {i : Int} : on (.int i) = true := rfl
theorem on_bl {i : Bool} : on (.bl i) = true := rfl
theorem on_str {i : Str} : on (.str i) = true := rfl
theorem on_non : on .non = true := rfl
theorem on_hole {v : V} : on (.hole v) = true := rfl
theorem on_frl {xs : List D} : on (.frl xs) = true := rfl
theorem on_dK {o : Bool} {xs : List (Key × D)} : on (.dK o xs) = true := rfl
theorem fz_int {i : Int} : fz (.int i) = .int i := rfl
theorem fz_bl {i : Bool} : fz (.bl i) = .bl i := rfl
theorem fz_str {i : Str} : fz (.str i) = .str i := rfl
theorem fz_non : fz .non = .non := rfl
theorem fz_tup {xs : List D} : fz (.tup xs) = .tup (fzL xs) := rfl
theorem fz_lst {o : Bool} {xs : List D} : fz (.lst o xs) = .lst false (fzL xs) := rfl
theorem fz_frl {xs : List D} : fz (.frl xs) = .frl (fzL xs) := rfl
theorem fzL_nil : fzL [] = [] := rfl
theorem fzL_cons {x : D} {xs : List D} : fzL (x :: xs) = fz x :: fzL xs := rfl
mutual
theorem fz_fz : ∀ d : D, fz (fz d) = fz d
  | .non => rfl | .bl _ => rfl | .int _ => rfl | .str _ => rfl
  | .tup xs => by rw [fz, fz, fzL_fz xs]
  | .lst o xs => by rw [fz, fz, fzL_fz xs]
  | .frl xs => by rw [fz, fz, fzL_fz xs]
  | .dK o xs => by rw [fz, fz, fzP_fz xs]
  | .dT o xs => by rw [fz, fz, fzQ_fz xs]
  | .ins o C xs => by rw [fz, fz, fzS_fz xs]
  | .rng _ _ => rfl | .hole _ => rfl | .off => rfl
theorem fzL_fz : ∀ d : List D, fzL (fzL d) = fzL d
  | [] => rfl
  | x :: xs => by rw [fzL, fzL, fz_fz x, fzL_fz xs]
theorem fzP_fz : ∀ d : List (Key × D), fzP (fzP d) = fzP d
  | [] => rfl
  | (k, x) :: xs => by rw [fzP, fzP, fz_fz x, fzP_fz xs]
theorem fzQ_fz : ∀ d : List (List Key × D), fzQ (fzQ d) = fzQ d
  | [] => rfl
  | (k, x) :: xs => by rw [fzQ, fzQ, fz_fz x, fzQ_fz xs]
theorem fzS_fz : ∀ d : List (Str × D), fzS (fzS d) = fzS d
  | [] => rfl
  | (k, x) :: xs => by rw [fzS, fzS, fz_fz x, fzS_fz xs]
end
theorem ats_nil {s : DS} : ats [] s = some [] := rfl
theorem ats_cons {t : Tok} {ts : List Tok} {s : DS} {K : List D → Prop} : (∃ xs, ats (t :: ts) s = some xs ∧ K xs) ↔ ∃ x, t.at s = some x ∧ ∃ ys, ats ts s = some ys ∧ K (x :: ys) := by
  unfold ats
  rw [List.mapM_cons]
  constructor
  · rintro ⟨xs, e, k⟩
    cases e1 : t.at s with
    | none => rw [e1] at e; cases e
    | some x =>
      cases e2 : ts.mapM (fun t => t.at s) with
      | none => rw [e1, e2] at e; cases e
      | some ys =>
        rw [e1, e2] at e
        have e' : some (x :: ys) = some xs := e
        cases e'
        exact ⟨x, rfl, ys, rfl, k⟩
  · rintro ⟨x, e1, ys, e2, k⟩
    exact ⟨x :: ys, by rw [e1, e2]; rfl, k⟩

/-! ### the tape of draws: n draws are left -/
def kCells : Key := .inr "cells"
def kSpot : Key := .inr "spot"
def kLeft : Key := .inr "left"
def tapeD (cells : List Int) (spot left : Int) : D := .dK true [(kCells, .lst false (cells.map .int)), (kSpot, .int spot), (kLeft, .int left)]
theorem on_tape {c : List Int} {s l : Int} : on (tapeD c s l) = true := rfl
section
variable {c : List Int} {s l : Int} {Q : D → Prop}
theorem tape_cells : o_ix (tapeD c s l) (.str "cells") Q ↔ Q (.lst false (c.map .int)) := by
  constructor
  · rintro ⟨k, d, ek, eg, ef, q⟩
    cases ek
    cases eg
    exact q
  · intro q
    refine ⟨_, _, rfl, rfl, ?_, q⟩
    rw [fz_lst, fzL_eq, List.map_map]; rfl
theorem tape_spot : o_ix (tapeD c s l) (.str "spot") Q ↔ Q (.int s) := by
  have e : getK [(kCells, D.lst false (c.map .int)), (kSpot, .int s), (kLeft, .int l)] (.inr "spot") = some (.int s) := rfl
  constructor
  · rintro ⟨k, d, ek, eg, ef, q⟩
    cases ek
    rw [e] at eg
    cases eg
    exact q
  · intro q
    exact ⟨_, _, rfl, e, rfl, q⟩
theorem tape_left : o_ix (tapeD c s l) (.str "left") Q ↔ Q (.int l) := by
  have e : getK [(kCells, D.lst false (c.map .int)), (kSpot, .int s), (kLeft, .int l)] (.inr "left") = some (.int l) := rfl
  constructor
  · rintro ⟨k, d, ek, eg, ef, q⟩
    cases ek
    rw [e] at eg
    cases eg
    exact q
  · intro q
    exact ⟨_, _, rfl, e, rfl, q⟩
theorem tape_set_spot {i : Int} (h : Q (tapeD c i l)) : d_set (tapeD c s l) (.str "spot") (.int i) Q := ⟨_, rfl, (by show 3 < sizeLine; rw [sizeLine_eq]; omega), by show [kCells, kSpot, kLeft].Nodup; decide, h⟩
theorem tape_set_left {i : Int} (h : Q (tapeD c s i)) : d_set (tapeD c s l) (.str "left") (.int i) Q := ⟨_, rfl, (by show 3 < sizeLine; rw [sizeLine_eq]; omega), by show [kCells, kSpot, kLeft].Nodup; decide, h⟩
theorem set_spot {i : Int} : d_set (tapeD c s l) (.str "spot") (.int i) Q ↔ Q (tapeD c i l) := ⟨fun ⟨k, ek, _, _, q⟩ => by cases ek; exact q, tape_set_spot⟩
theorem set_left {i : Int} : d_set (tapeD c s l) (.str "left") (.int i) Q ↔ Q (tapeD c s i) := ⟨fun ⟨k, ek, _, _, q⟩ => by cases ek; exact q, tape_set_left⟩
end
end M
namespace M
open PySem PySem.Spec PyProof.Rows L2
def absI (i : Int) : Int := if i < 0 then -i else i
section
variable {i j : Int} {Q : D → Prop} {xs ys : List D} {o o' : Bool}
theorem r_lt : o_lt (.int i) (.int j) Q ↔ Q (.bl (decide (i < j))) := Iff.rfl
theorem r_le : o_le (.int i) (.int j) Q ↔ Q (.bl (decide (i ≤ j))) := Iff.rfl
theorem r_gt : o_gt (.int i) (.int j) Q ↔ Q (.bl (decide (j < i))) := Iff.rfl
theorem r_ge : o_ge (.int i) (.int j) Q ↔ Q (.bl (decide (j ≤ i))) := Iff.rfl
theorem r_eq : o_eq (.int i) (.int j) Q ↔ Q (.bl (decide (i = j))) := Iff.rfl
theorem r_ne : o_ne (.int i) (.int j) Q ↔ Q (.bl (!decide (i = j))) := Iff.rfl
theorem r_eqS {a b : Str} : o_eq (.str a) (.str b) Q ↔ Q (.bl (decide (a = b))) := Iff.rfl
theorem r_neS {a b : Str} : o_ne (.str a) (.str b) Q ↔ Q (.bl (!decide (a = b))) := Iff.rfl
theorem r_add : o_add (.int i) (.int j) Q ↔ Q (.int (i + j)) := Iff.rfl
theorem r_addL : o_add (.lst o xs) (.lst o' ys) Q ↔ fzL xs = xs ∧ fzL ys = ys ∧ xs.length + ys.length ≤ sizeLine ∧ Q (.lst true (xs ++ ys)) := Iff.rfl
theorem r_sub : o_sub (.int i) (.int j) Q ↔ Q (.int (i - j)) := Iff.rfl
theorem r_mul : o_mul (.int i) (.int j) Q ↔ CMul i j ∧ Q (.int (i * j)) := Iff.rfl
theorem r_mulL : o_mul (.lst o xs) (.int j) Q ↔ fzL xs = xs ∧ (-(2 ^ 63) ≤ j ∧ j < 2 ^ 63) ∧ xs.length * j.toNat ≤ sizeLine ∧ Q (.lst true (List.replicate j.toNat xs).flatten) := Iff.rfl
theorem r_mod : o_mod (.int i) (.int j) Q ↔ 0 < j ∧ Q (.int (i % j)) := Iff.rfl
theorem r_fdiv : o_fdiv (.int i) (.int j) Q ↔ CDiv i j ∧ Q (.int (i / j)) := Iff.rfl
theorem r_pow : o_pow (.int i) (.int j) Q ↔ CPow i j ∧ Q (.int (i ^ j.toNat)) := Iff.rfl
theorem r_int : o_int [.int i] Q ↔ Q (.int i) := Iff.rfl
theorem r_intB {b : Bool} : o_int [.bl b] Q ↔ Q (.int (if b then 1 else 0)) := Iff.rfl
theorem r_abs : o_abs [.int i] Q ↔ Q (.int (absI i)) := Iff.rfl
theorem r_neg : o_neg (.int i) Q ↔ Q (.int (-i)) := Iff.rfl
theorem r_lenL : o_len [.lst o xs] Q ↔ Q (.int (xs.length : Nat)) := by
  constructor
  · rintro ⟨n, e, q⟩; cases e; exact q
  · intro q; exact ⟨_, rfl, q⟩
theorem r_lenT : o_len [.tup xs] Q ↔ Q (.int (xs.length : Nat)) := by
  constructor
  · rintro ⟨n, e, q⟩; cases e; exact q
  · intro q; exact ⟨_, rfl, q⟩
theorem r_lenF : o_len [.frl xs] Q ↔ Q (.int (xs.length : Nat)) := by
  constructor
  · rintro ⟨n, e, q⟩; cases e; exact q
  · intro q; exact ⟨_, rfl, q⟩
theorem r_ixL {y : D} : o_ix (.lst o xs) y Q ↔ ∃ i d, y = .int i ∧ L2.atI xs i = some d ∧ fz d = d ∧ Q d := by
  constructor
  · rintro ⟨_, i, d, e, h⟩; cases e; exact ⟨i, d, h⟩
  · rintro ⟨i, d, h⟩; exact ⟨_, i, d, rfl, h⟩
theorem r_ixT {y : D} : o_ix (.tup xs) y Q ↔ ∃ i d, y = .int i ∧ L2.atI xs i = some d ∧ fz d = d ∧ Q d := Iff.rfl
theorem r_append {r : D → D → Prop} {y : D} : d_append (.lst true xs) [y] r ↔ xs.length < sizeLine ∧ r .non (.lst true (xs ++ [y])) := Iff.rfl
theorem r_popAt {r : D → D → Prop} : d_popAt (.lst true xs) [.int i] r ↔ ∃ k y, -(2 ^ 63) ≤ i ∧ i < 2 ^ 63 ∧ seqIndex? i xs.length = some k ∧ xs[k]? = some y ∧ r y (.lst true (xs.eraseIdx k)) := Iff.rfl
theorem r_extend {r : D → D → Prop} : d_extend (.lst true xs) [.lst o ys] r ↔ xs.length + ys.length ≤ sizeLine ∧ r .non (.lst true (xs ++ ys)) := Iff.rfl
theorem r_tyL : tyD "list" (.lst o xs) ↔ True := ⟨fun _ => trivial, fun _ => rfl⟩
theorem r_min {Q : D → Prop} : o_min2 [.int i, .int j] Q ↔ Q (.int (if j < i then j else i)) := Iff.rfl
end
end M
namespace M
open PySem PySem.Spec PyProof.Rows L2
theorem ix_at {o : Bool} {xs : List D} {i : Int} {d : D} {Q : D → Prop} (h : L2.atI xs i = some d) (hf : fz d = d) : o_ix (.lst o xs) (.int i) Q ↔ Q d := by
  rw [r_ixL]
  constructor
  · rintro ⟨j, e, ej, h1, h2, q⟩
    cases ej
    rw [h] at h1
    cases h1
    exact q
  · intro q
    exact ⟨i, d, rfl, h, hf, q⟩
theorem ix_atT {xs : List D} {i : Int} {d : D} {Q : D → Prop} (h : L2.atI xs i = some d) (hf : fz d = d) : o_ix (.tup xs) (.int i) Q ↔ Q d := by
  rw [r_ixT]
  constructor
  · rintro ⟨j, e, ej, h1, h2, q⟩
    cases ej
    rw [h] at h1
    cases h1
    exact q
  · intro q
    exact ⟨i, d, rfl, h, hf, q⟩
theorem atI_get {α : Type} {xs : List α} {i : Int} (h0 : 0 ≤ i) (h1 : i < xs.length) : L2.atI xs i = some (xs[i.toNat]'(by omega)) := by
  unfold L2.atI L2.ixN
  rw [if_pos h0, if_pos h1]
  exact List.getElem?_eq_getElem (by omega)
theorem at_cells {cells : List Int} {i : Int} (h0 : 0 ≤ i) (h1 : i < cells.length) : L2.atI (cells.map D.int) i = some (.int (cells[i.toNat]'(by omega))) := by
  rw [atI_get h0 (by rw [List.length_map]; exact h1), List.getElem_map]
end M

namespace M
open PySem PySem.Spec PyProof.Rows L2
/-! ### plain data: what can be held against each other and shown -/
structure PyOk (k : Nat) (p : PyData) : Prop where
  lay : p.canLay0 = true
  show' : p.showable = true
  nod : p.hasDict = false
  dep : p.depth ≤ k
  leaf : PyData.leavesShort 40 p = true
structure PyOkL (k : Nat) (p : List PyData) : Prop where
  lay : PyData.canLayAll0 p = true
  show' : PyData.showableAll p = true
  nod : PyData.hasDictAll p = false
  dep : PyData.depthAll p ≤ k
  leaf : PyData.leavesShortAll 40 p = true
structure Nice (k : Nat) (x : D) : Prop where
  on : on x = true
  fz : fz x = x
  tag : ∃ t, tagD x = some t
  py : ∃ p, toPy x = some p ∧ PyOk k p
theorem Nice.wide {j k : Nat} {x : D} (h : Nice j x) (hk : j ≤ k) : Nice k x := ⟨h.on, h.fz, h.tag, by
  obtain ⟨p, e, o⟩ := h.py
  exact ⟨p, e, o.lay, o.show', o.nod, Nat.le_trans o.dep hk, o.leaf⟩⟩
theorem PyOkL.nil {k : Nat} : PyOkL k [] := ⟨by simp only [PyData.canLayAll0], by simp only [PyData.showableAll], by simp only [PyData.hasDictAll], by simp only [PyData.depthAll]; omega, by simp only [PyData.leavesShortAll]⟩
theorem PyOkL.cons {k : Nat} {p : PyData} {ps : List PyData} (h : PyOk k p) (hs : PyOkL k ps) : PyOkL k (p :: ps) := ⟨by simp only [PyData.canLayAll0, h.lay, hs.lay, Bool.and_self], by simp only [PyData.showableAll, h.show', hs.show', Bool.and_self], by simp only [PyData.hasDictAll, h.nod, hs.nod, Bool.or_self], by
  simp only [PyData.depthAll]
  have := h.dep
  have := hs.dep
  omega, by simp only [PyData.leavesShortAll, h.leaf, hs.leaf, Bool.and_self]⟩
theorem nice_all {k : Nat} : ∀ {xs : List D}, (∀ x ∈ xs, Nice k x) → fzL xs = xs ∧ ∃ ps, toPyL xs = some ps ∧ PyOkL k ps
  | [], _ => ⟨rfl, [], rfl, .nil⟩
  | x :: xs, h => by
    obtain ⟨e1, ps, e2, o⟩ := nice_all (xs := xs) fun y hy => h y (List.mem_cons_of_mem _ hy)
    have hx := h x List.mem_cons_self
    obtain ⟨p, e3, o3⟩ := hx.py
    refine ⟨by rw [fzL, hx.fz, e1], p :: ps, ?_, .cons o3 o⟩
    show (match toPy x with
    | none => none
    | some p => (toPyL xs).map (p :: ·)) = _
    rw [e3, e2]; rfl
theorem PyOkL.list {k : Nat} {ps : List PyData} (h : PyOkL k ps) : PyOk (k + 1) (.list ps) := ⟨by simp only [PyData.canLay0, h.lay], by simp only [PyData.showable, h.show'], by simp only [PyData.hasDict, h.nod], by
  simp only [PyData.depth]
  have := h.dep
  omega, by simp only [PyData.leavesShort, h.leaf]⟩
theorem PyOkL.tuple {k : Nat} {ps : List PyData} (h : PyOkL k ps) : PyOk (k + 1) (.tuple ps) := ⟨by simp only [PyData.canLay0, h.lay], by simp only [PyData.showable, h.show'], by simp only [PyData.hasDict, h.nod], by
  simp only [PyData.depth]
  have := h.dep
  omega, by simp only [PyData.leavesShort, h.leaf]⟩
theorem nice_lst {k : Nat} {xs : List D} (h : ∀ x ∈ xs, Nice k x) : Nice (k + 1) (.lst false xs) := by
  obtain ⟨e1, ps, e2, o⟩ := nice_all h
  exact ⟨rfl, by rw [fz_lst, e1], ⟨_, rfl⟩, .list ps, by rw [toPy, e2]; rfl, o.list⟩
theorem nice_tup {k : Nat} {xs : List D} (h : ∀ x ∈ xs, Nice k x) : Nice (k + 1) (.tup xs) := by
  obtain ⟨e1, ps, e2, o⟩ := nice_all h
  exact ⟨rfl, by rw [fz_tup, e1], ⟨_, rfl⟩, .tuple ps, by rw [toPy, e2]; rfl, o.tuple⟩
theorem nice_bl {b : Bool} : Nice 1 (.bl b) := ⟨rfl, rfl, ⟨_, rfl⟩, .bool b, rfl, by simp only [PyData.canLay0], by simp only [PyData.showable], by simp only [PyData.hasDict], by simp only [PyData.depth]; omega, by simp only [PyData.leavesShort]⟩
theorem nice_non : Nice 1 .non := ⟨rfl, rfl, ⟨_, rfl⟩, .none, rfl, by simp only [PyData.canLay0], by simp only [PyData.showable], by simp only [PyData.hasDict], by simp only [PyData.depth]; omega, by simp only [PyData.leavesShort]⟩
theorem log2_lt {n k : Nat} (h : n < 2 ^ k) (hk : 0 < k) : n.log2 < k := by
  by_cases h0 : n = 0
  · subst h0; simpa using hk
  · exact (Nat.log2_lt h0).mpr h
theorem nice_int {i : Int} (h : i.natAbs < 10 ^ 12) : Nice 1 (.int i) := ⟨rfl, rfl, ⟨_, rfl⟩, .int i, rfl, by simp only [PyData.canLay0], by
  simp only [PyData.showable, decide_eq_true_eq]
  have : i.natAbs.log2 < 60 := log2_lt (Nat.lt_trans h (by decide)) (by decide)
  omega, by simp only [PyData.hasDict], by simp only [PyData.depth]; omega, by
  simp only [PyData.leavesShort, decide_eq_true_eq]
  have := PyData.shown_int_le h
  omega⟩
theorem nice_big : Nice 1 (.int (10 ^ 30)) := ⟨rfl, rfl, ⟨_, rfl⟩, .int (10 ^ 30), rfl, by simp only [PyData.canLay0], by
  simp only [PyData.showable, decide_eq_true_eq]; decide +kernel, by simp only [PyData.hasDict], by simp only [PyData.depth]; omega, by
  simp only [PyData.leavesShort, decide_eq_true_eq]; decide +kernel⟩
/-- what a thing weighs -/
def wt (x : D) : Nat := match toPy x with
  | some p => p.weight
  | none => 0
def wtL (xs : List D) : Nat := (xs.map fun x => wt x + 1).sum
theorem wtL_py : ∀ {xs : List D} {ps : List PyData}, toPyL xs = some ps → PyData.weightAll ps = wtL xs
  | [], _, e => by cases e; simp [PyData.weightAll, wtL]
  | x :: xs, ps, e => by
    have e' : (match toPy x with
    | none => none
    | some p => (toPyL xs).map (p :: ·)) = some ps := e
    cases e1 : toPy x with
    | none => rw [e1] at e'; cases e'
    | some p =>
      cases e2 : toPyL xs with
      | none => rw [e1, e2] at e'; cases e'
      | some qs =>
        rw [e1, e2] at e'
        cases e'
        have ih := wtL_py e2
        simp only [PyData.weightAll, ih, wtL, List.map_cons, List.sum_cons, wt, e1]
theorem wtL_app {xs ys : List D} : wtL (xs ++ ys) = wtL xs + wtL ys := by
  unfold wtL
  rw [List.map_append, List.sum_append]
theorem wtL_cons {x : D} {xs : List D} : wtL (x :: xs) = wt x + 1 + wtL xs := by
  unfold wtL
  rw [List.map_cons, List.sum_cons]
theorem wtL_le {w : Nat} : ∀ {xs : List D}, (∀ x ∈ xs, wt x ≤ w) → wtL xs ≤ xs.length * (w + 1)
  | [], _ => by simp [wtL]
  | x :: xs, h => by
    rw [wtL_cons, List.length_cons, Nat.add_mul]
    have h1 := h x List.mem_cons_self
    have h2 := wtL_le (xs := xs) fun y hy => h y (List.mem_cons_of_mem _ hy)
    omega
theorem wtL_td {xs : List D} (n m : Nat) (h : n ≤ m) : wtL (xs.take n) + wtL (xs.drop m) ≤ wtL xs := by
  have e : wtL xs = wtL (xs.take n) + wtL (xs.drop n) := by rw [← wtL_app, List.take_append_drop]
  have e2 : wtL (xs.drop n) = wtL ((xs.drop n).take (m - n)) + wtL (xs.drop m) := by
    have h1 : (xs.drop n).drop (m - n) = xs.drop m := by rw [List.drop_drop]; congr 1; omega
    rw [← h1, ← wtL_app, List.take_append_drop]
  omega
theorem wt_lst {o : Bool} {xs : List D} {ps : List PyData} (e : toPyL xs = some ps) : wt (.lst o xs) = wtL xs := by
  unfold wt
  have : toPy (.lst o xs) = some (.list ps) := by rw [toPy, e]; rfl
  rw [this]
  simp only [PyData.weight]
  exact wtL_py e
theorem wt_tup {xs : List D} {ps : List PyData} (e : toPyL xs = some ps) : wt (.tup xs) = wtL xs := by
  unfold wt
  have : toPy (.tup xs) = some (.tuple ps) := by rw [toPy, e]; rfl
  rw [this]
  simp only [PyData.weight]
  exact wtL_py e
theorem wt_int {i : Int} {n : Nat} (h : i.natAbs < 2 ^ n) : wt (.int i) ≤ n := by
  have e : wt (.int i) = if (i == 0) = true then 0 else i.natAbs.log2 + 1 := by
    show (PyData.int i).weight = _
    simp only [PyData.weight]
  rw [e]
  split
  · omega
  · rename_i h0
    have h1 : i.natAbs ≠ 0 := by
      intro z
      apply h0
      have : i = 0 := by omega
      rw [this]; rfl
    have : i.natAbs.log2 < n := (Nat.log2_lt h1).mpr h
    omega
/-- what is nice and not too heavy has its repr -/
theorem nice_repr {k : Nat} {x : D} (h : Nice k x) (hk : k ≤ 60) (hw : wt x ≤ 390000) : ∃ p, toPy x = some p ∧ reprOk p := by
  obtain ⟨p, e, o⟩ := h.py
  refine ⟨p, e, o.show', o.nod, Nat.le_trans o.dep (by omega), ?_⟩
  have h1 := PyData.shown_le 40 (by decide) p o.leaf
  have h2 : wt x = p.weight := by unfold wt; rw [e]
  rw [sizeLine_eq]
  omega
def shownD (x : D) : Str := match toPy x with
  | some p => p.shown
  | none => ⟨#[]⟩
theorem r_repr {k : Nat} {x : D} {Q : D → Prop} (h : Nice k x) (hk : k ≤ 60) (hw : wt x ≤ 390000) : o_repr [x] Q ↔ Q (.str (shownD x)) := by
  obtain ⟨p, e, o⟩ := nice_repr h hk hw
  have es : shownD x = p.shown := by unfold shownD; rw [e]
  rw [es]
  constructor
  · rintro ⟨p', e', _, q⟩
    rw [e] at e'
    cases e'
    exact q
  · intro q
    exact ⟨p, e, o, q⟩
theorem PyOk.shaped {k : Nat} {p : PyData} (h : PyOk k p) (hk : k ≤ 64) : SeqAt.shaped p = true := by
  simp only [SeqAt.shaped, h.lay, Bool.true_and, decide_eq_true_eq]
  have := h.dep
  omega
/-- xs != [] -/
theorem r_neNil {k : Nat} {o o' : Bool} {xs : List D} {Q : D → Prop} (h : ∀ x ∈ xs, Nice k x) (hk : k ≤ 60) : o_ne (.lst o xs) (.lst o' []) Q ↔ Q (.bl (!xs.isEmpty)) := by
  obtain ⟨e1, ps, e2, ok⟩ := nice_all h
  have s1 := (ok.list).shaped (by omega)
  have s2 := ((PyOkL.nil (k := 0)).list).shaped (by omega)
  have t1 : toPy (.lst o xs) = some (.list ps) := by rw [toPy, e2]; rfl
  have t2 : toPy (.lst o' []) = some (.list []) := rfl
  have ev : PyData.eqv (.list ps) (.list []) = xs.isEmpty := by
    cases xs with
    | nil => cases e2; simp only [PyData.eqv, PyData.eqvAll, List.isEmpty_nil]
    | cons x xs =>
      cases ps with
      | nil =>
        have e' : (match toPy x with
        | none => none
        | some p => (toPyL xs).map (p :: ·)) = some [] := e2
        cases h1 : toPy x with
        | none => rw [h1] at e'; cases e'
        | some p =>
          rw [h1] at e'
          cases h2 : toPyL xs with
          | none => rw [h2] at e'; cases e'
          | some qs => rw [h2] at e'; cases e'
      | cons p ps => simp only [PyData.eqv, PyData.eqvAll, List.isEmpty_cons]
  constructor
  · rintro ⟨p, q, e, e', _, _, z⟩
    rw [t1] at e
    rw [t2] at e'
    cases e
    cases e'
    rw [ev] at z
    exact z
  · intro z
    refine ⟨_, _, t1, t2, s1, s2, ?_⟩
    rw [ev]
    exact z
theorem r_eqNil {k : Nat} {o o' : Bool} {xs : List D} {Q : D → Prop} (h : ∀ x ∈ xs, Nice k x) (hk : k ≤ 60) : o_eq (.lst o xs) (.lst o' []) Q ↔ Q (.bl (xs.isEmpty)) := by
  have := r_neNil (o := o) (o' := o') (Q := fun z => match z with | .bl b => Q (.bl (!b)) | _ => False) h hk
  simp only [Bool.not_not] at this
  rw [← this]
  constructor
  · rintro ⟨p, q, e, e', s, s', z⟩
    exact ⟨p, q, e, e', s, s', by simpa using z⟩
  · rintro ⟨p, q, e, e', s, s', z⟩
    exact ⟨p, q, e, e', s, s', by simpa using z⟩
end M
namespace M
open PySem PySem.Spec PyProof.Rows L2
theorem r_slL {o : Bool} {xs : List D} {lo hi : Option Int} {Q : D → Prop} (h : fzL xs = xs) : o_sl (.lst o xs) lo hi Q ↔ Q (.lst true (cutD xs lo hi)) := by
  constructor
  · rintro ⟨ys, e, _, q⟩; cases e; exact q
  · intro q; exact ⟨_, rfl, h, q⟩
theorem r_slF {xs : List D} {lo hi : Option Int} {Q : D → Prop} (h : fzL xs = xs) : o_sl (.frl xs) lo hi Q ↔ Q (.lst true (cutD xs lo hi)) := by
  constructor
  · rintro ⟨ys, e, _, q⟩; cases e; exact q
  · intro q; exact ⟨_, rfl, h, q⟩
theorem r_list {o : Bool} {xs : List D} {Q : D → Prop} (h : fzL xs = xs) : o_list [.lst o xs] Q ↔ Q (.lst true xs) := by
  constructor
  · rintro ⟨x, ys, e, e2, _, q⟩; cases e; cases e2; exact q
  · intro q; exact ⟨_, _, rfl, rfl, h, q⟩
theorem r_listT {xs : List D} {Q : D → Prop} (h : fzL xs = xs) : o_list [.tup xs] Q ↔ Q (.lst true xs) := by
  constructor
  · rintro ⟨x, ys, e, e2, _, q⟩; cases e; cases e2; exact q
  · intro q; exact ⟨_, _, rfl, rfl, h, q⟩
theorem r_tuple {o : Bool} {xs : List D} {Q : D → Prop} (h : fzL xs = xs) : o_tuple [.lst o xs] Q ↔ Q (.tup xs) := by
  constructor
  · rintro ⟨x, ys, e, e2, _, q⟩; cases e; cases e2; exact q
  · intro q; exact ⟨_, _, rfl, rfl, h, q⟩
theorem cut_to {xs : List D} {n : Int} (h : 0 ≤ n) : cutD xs none (some n) = xs.take n.toNat := by
  unfold cutD HT.sIx
  simp only [List.drop_zero, Nat.sub_zero]
  rw [if_neg (by omega)]
  rw [List.take_eq_take_iff]
  omega
theorem cut_from {xs : List D} {n : Int} (h : 0 ≤ n) : cutD xs (some n) none = xs.drop n.toNat := by
  unfold cutD HT.sIx
  simp only
  rw [if_neg (by omega)]
  by_cases hl : n.toNat ≤ xs.length
  · rw [Nat.min_eq_left hl]
    rw [List.take_of_length_le (by rw [List.length_drop]; omega)]
  · rw [Nat.min_eq_right (by omega), List.drop_of_length_le (Nat.le_refl _), List.drop_of_length_le (by omega), List.take_nil]
theorem cut_last {xs : List D} : cutD xs none (some (-1)) = xs.dropLast := by
  unfold cutD HT.sIx
  simp only [List.drop_zero, Nat.sub_zero]
  rw [if_pos (by omega), List.dropLast_eq_take]
  congr 1
  omega
theorem fzL_ints (ns : List Int) : fzL (ns.map D.int) = ns.map D.int := by
  rw [fzL_eq, List.map_map]; rfl
theorem fzL_nice {k : Nat} {xs : List D} (h : ∀ x ∈ xs, Nice k x) : fzL xs = xs := (nice_all h).1
end M
namespace M
open PySem PySem.Spec PyProof.Rows L2
theorem seqIx {i : Int} {n : Nat} (h0 : 0 ≤ i) (h1 : i < n) : seqIndex? i n = some i.toNat := by
  have h2 : ¬ i < 0 := by omega
  simp [seqIndex?, h2, h0, h1]
theorem erase_perm {α : Type} : ∀ {xs : List α} {j : Nat} (h : j < xs.length), (xs[j] :: xs.eraseIdx j).Perm xs
  | x :: xs, 0, _ => List.Perm.refl _
  | x :: xs, j + 1, h => by
    have h' : j < xs.length := by simpa using h
    have := erase_perm (xs := xs) (j := j) h'
    show (xs[j]'h' :: x :: xs.eraseIdx j).Perm (x :: xs)
    exact (List.Perm.swap x (xs[j]'h') _).trans (List.Perm.cons x this)
/-- a walk by an invariant -/
theorem for_inv0 {g : DG} {b : DSt} {E : DEnds} {zs : List D} (I : Nat → DS → Prop) (k : ∀ j x, zs[j]? = some x → ∀ s, I j s → ∀ E' : DEnds, (∀ s', I (j + 1) s' → E'.nx s') → (∀ s', I (j + 1) s' → E'.ct s') → E'.rt = E.rt → E'.bk = E.nx → g x s fun s1 => b E' s1) (q : ∀ s, I zs.length s → E.nx s) : ∀ {xs : List D} {i : Nat} {s : DS}, (∀ j, xs[j]? = zs[i + j]?) → i + xs.length = zs.length → I i s → wforL g b xs E s
  | [], i, s, _, hl, h => q s (by rw [← hl]; exact h)
  | x :: xs, i, s, hx, hl, h => by
    have rest : ∀ s', I (i + 1) s' → wforL g b xs E s' := fun s' h' => for_inv0 I k q (fun j => by
      have := hx (j + 1)
      rw [List.getElem?_cons_succ] at this
      rw [this]
      congr 1
      omega) (by rw [← hl, List.length_cons]; omega) h'
    exact k i x (by have := hx 0; rw [List.getElem?_cons_zero] at this; exact this.symm) s h ⟨_, _, _, _⟩ rest rest rfl rfl
theorem for_inv {g : DG} {b : DSt} {E : DEnds} {zs : List D} {s : DS} (I : Nat → DS → Prop) (h : I 0 s) (k : ∀ j x, zs[j]? = some x → ∀ s, I j s → ∀ E' : DEnds, (∀ s', I (j + 1) s' → E'.nx s') → (∀ s', I (j + 1) s' → E'.ct s') → E'.rt = E.rt → E'.bk = E.nx → g x s fun s1 => b E' s1) (q : ∀ s, I zs.length s → E.nx s) : wforL g b zs E s :=
  for_inv0 I k q (fun j => by rw [Nat.zero_add]) (Nat.zero_add _) h
theorem rangeD_len {lo : Int} {n : Nat} : (rangeD lo n).length = n := by unfold rangeD; rw [List.length_map, List.length_range]
theorem rangeD_at {lo : Int} {n j : Nat} {x : D} (h : (rangeD lo n)[j]? = some x) : j < n ∧ x = .int (lo + j) := by
  unfold rangeD at h
  rw [List.getElem?_map] at h
  cases e : (List.range n)[j]? with
  | none => rw [e] at h; cases h
  | some k =>
    rw [e] at h
    cases h
    obtain ⟨hl, hk⟩ := List.getElem?_eq_some_iff.mp e
    rw [List.getElem_range] at hk
    rw [List.length_range] at hl
    subst hk
    exact ⟨hl, rfl⟩
end M
namespace M
open PySem PySem.Spec PyProof.Rows L2
/-- a comprehension without a test, by an invariant -/
theorem lc_inv {g : DG} {e : DE} {vs : List Nat} {k : List D → DS → Prop} {zs : List D} (I : List D → DS → Prop) (h : ∀ j x, zs[j]? = some x → ∀ acc s, acc.length = j → I acc s → ∀ K : D → DS → Prop, (∀ y s', I (acc ++ [y]) (unset vs s') → K y s') → g x s fun s1 => e s1 K) (q : ∀ acc s, acc.length = zs.length → I acc s → k acc s) :
    ∀ {xs acc : List D} {s : DS}, (∀ j, xs[j]? = zs[acc.length + j]?) → acc.length + xs.length = zs.length → I acc s → wlcL g tyes e vs k xs acc s
  | [], acc, s, _, hl, i => q acc s hl i
  | x :: xs, acc, s, hx, hl, i => h acc.length x (by have := hx 0; rw [List.getElem?_cons_zero] at this; exact this.symm) acc s rfl i (fun y s' => wlcL g tyes e vs k xs (acc ++ [y]) (unset vs s')) fun y s' i' => lc_inv I h q (fun j => by
      have := hx (j + 1)
      rw [List.getElem?_cons_succ] at this
      rw [this, List.length_append]
      congr 1
      show _ = acc.length + 1 + j
      omega) (by rw [List.length_append, ← hl, List.length_cons, List.length_cons, List.length_nil]; omega) i'
theorem lc_from {g : DG} {e : DE} {vs : List Nat} {k : List D → DS → Prop} {zs : List D} {s : DS} (I : List D → DS → Prop) (h0 : I [] s) (h : ∀ j x, zs[j]? = some x → ∀ acc s, acc.length = j → I acc s → ∀ K : D → DS → Prop, (∀ y s', I (acc ++ [y]) (unset vs s') → K y s') → g x s fun s1 => e s1 K) (q : ∀ acc s, acc.length = zs.length → I acc s → k acc s) : wlcL g tyes e vs k zs [] s :=
  lc_inv I h q (fun j => by rw [List.length_nil, Nat.zero_add]) (by rw [List.length_nil, Nat.zero_add]) h0
theorem atI_mem {α : Type} {xs : List α} {i : Int} (h0 : -(xs.length : Int) ≤ i) (h1 : i < xs.length) : ∃ d, L2.atI xs i = some d ∧ d ∈ xs := by
  unfold L2.atI L2.ixN
  by_cases h : 0 ≤ i
  · rw [if_pos h, if_pos h1]
    exact ⟨xs[i.toNat]'(by omega), List.getElem?_eq_getElem (by omega), List.getElem_mem _⟩
  · rw [if_neg h, if_pos h0]
    exact ⟨xs[(i + xs.length).toNat]'(by omega), List.getElem?_eq_getElem (by omega), List.getElem_mem _⟩
end M

namespace M
open PySem PySem.Spec PyProof.Rows L2
/-! ### the terms, step by step (as rows of their own, so that each step is a small one) -/
section
variable {s : DS} {Q : D → DS → Prop} {Qb : Bool → DS → Prop} {Qa : List D → DS → Prop} {E : DEnds} {a b c : DE} {t u : DT} {r : DA} {p q : DSt} {d x y z : D} {oa ob oc : Opd} {k : DS → Prop}
theorem x_seq : wseq p q E s ↔ p { E with nx := q E } s := ⟨id, id⟩
theorem x_ifS : wifS t p q E s ↔ t s fun c s1 => if c = true then p E s1 else q E s1 := ⟨id, id⟩
theorem x_asg {g : DG} : wasg g a E s ↔ a s fun d s1 => g d s1 E.nx := ⟨id, id⟩
theorem x_par {i j : Nat} : wpar i j r E s ↔ r s fun xs s1 => ∃ x y, xs = [x, y] ∧ i < s1.length ∧ j < s1.length ∧ E.nx ((s1.set i x).set j y) := ⟨id, id⟩
theorem x_for {it : DS → (List D → DS → Prop) → Prop} {g : DG} : wfor it g p E s ↔ it s fun xs s1 => wforL g p xs E s1 := ⟨id, id⟩
theorem x_gname {i : Nat} : gname i d s k ↔ i < s.length ∧ k (s.set i d) := ⟨id, id⟩
theorem x_gnil {xs : List D} : gnil xs s k ↔ xs = [] ∧ k s := ⟨id, id⟩
theorem x_gcons {g : DG} {gs : DGs} {xs : List D} : gcons g gs xs s k ↔ ∃ x ys, xs = x :: ys ∧ g x s fun s1 => gs ys s1 k := ⟨id, id⟩
theorem x_gtup {n : Nat} {gs : DGs} : gtup n gs d s k ↔ ∃ xs, d = .tup xs ∧ xs.length = n ∧ gs xs s k := ⟨id, id⟩
theorem x_gixP {pl : PL} {ke : KE} {o : DSet} : gixP pl ke o d s k ↔ ∃ c g y, pl s = some (c, g) ∧ keyAt ke s = some y ∧ on y = true ∧ o c y d fun c' => k (g c') := ⟨id, id⟩
theorem x_tup : wtup r s Q ↔ r s fun xs s1 => Q (.tup xs) s1 := ⟨id, id⟩
theorem x_lst : wlst r s Q ↔ r s fun xs s1 => Q (.lst true xs) s1 := ⟨id, id⟩
theorem x_cons : wcons a r s Qa ↔ a s fun x s1 => r s1 fun xs s2 => Qa (x :: xs) s2 := ⟨id, id⟩
theorem x_nil : wnil s Qa ↔ Qa [] s := ⟨id, id⟩
theorem x_dK {ks : List Key} : wdK ks r s Q ↔ r s fun xs s1 => Q (.dK true (ks.zip xs)) s1 := ⟨id, id⟩
theorem x_op2 {o : Op2} : wop2 o oa ob s Q ↔ evO oa s fun t s1 => evO ob s1 fun u s2 => ∃ x y, t.at s2 = some x ∧ u.at s2 = some y ∧ on x = true ∧ on y = true ∧ o x y fun z => Q z s2 := ⟨id, id⟩
theorem x_op1 {o : Op1} : wop1 o oa s Q ↔ evO oa s fun t s1 => ∃ x, t.at s1 = some x ∧ on x = true ∧ o x fun z => Q z s1 := ⟨id, id⟩
theorem x_opL {o : OpL} {os : List Opd} : wopL o os s Q ↔ evOs os s fun ts s1 => ∃ xs, ats ts s1 = some xs ∧ xs.all on = true ∧ o xs fun z => Q z s1 := ⟨id, id⟩
theorem x_ret : wret a E s ↔ a s E.rt := ⟨id, id⟩
theorem x_mov {i : Nat} : wmov i s Q ↔ ∃ d, s[i]? = some d ∧ on d = true ∧ Q d (s.set i .off) := ⟨id, id⟩
theorem x_var {i : Nat} : wvar i s Q ↔ ∃ d, s[i]? = some d ∧ on d = true ∧ Q (fz d) (s.set i (fz d)) := ⟨id, id⟩
theorem x_fz : wfz a s Q ↔ a s fun x s1 => Q (fz x) s1 := ⟨id, id⟩
theorem x_c : wc d s Q ↔ Q d s := ⟨id, id⟩
theorem x_next : wnext E s ↔ E.nx s := ⟨id, id⟩
theorem x_drop : wdrop a E s ↔ a s fun _ s1 => E.nx s1 := ⟨id, id⟩
theorem x_if : wif t a b s Q ↔ t s fun c s1 => if c = true then a s1 Q else b s1 Q := ⟨id, id⟩
theorem x_and : wand a b s Q ↔ a s fun x s1 => ∃ c, x = .bl c ∧ if c = true then b s1 Q else Q (.bl false) s1 := ⟨id, id⟩
theorem x_or : wor a b s Q ↔ a s fun x s1 => ∃ c, x = .bl c ∧ if c = true then Q (.bl true) s1 else b s1 Q := ⟨id, id⟩
theorem x_not : wnot a s Q ↔ a s fun x s1 => ∃ c, x = .bl c ∧ Q (.bl (!c)) s1 := ⟨id, id⟩
theorem x_chain {o o' : Op2} : wchain o o' oa ob oc s Q ↔ evO oa s fun t s1 => evO ob s1 fun u s2 => ∃ x y, t.at s2 = some x ∧ u.at s2 = some y ∧ on x = true ∧ on y = true ∧ o x y fun z => ∃ k, z = .bl k ∧ if k = true then evO oc s2 fun r s3 => ∃ y' z', u.at s3 = some y' ∧ r.at s3 = some z' ∧ on y' = true ∧ on z' = true ∧ o' y' z' fun e => Q e s3 else Q (.bl false) s2 := ⟨id, id⟩
theorem x_tchain {o o' : Op2} : tchain o o' oa ob oc s Qb ↔ wchain o o' oa ob oc s fun x s1 => ∃ k, x = .bl k ∧ Qb k s1 := ⟨id, id⟩
theorem x_tcmp {o : Op2} : tcmp o oa ob s Qb ↔ wop2 o oa ob s fun x s1 => ∃ c, x = .bl c ∧ Qb c s1 := ⟨id, id⟩
theorem x_tval : tval a s Qb ↔ a s fun x s1 => ∃ c, x = .bl c ∧ Qb c s1 := ⟨id, id⟩
theorem x_tand : tand t u s Qb ↔ t s fun c s1 => if c = true then u s1 Qb else Qb false s1 := ⟨id, id⟩
theorem x_tor : tor t u s Qb ↔ t s fun c s1 => if c = true then Qb true s1 else u s1 Qb := ⟨id, id⟩
theorem x_tnot : tnot t s Qb ↔ t s fun c s1 => Qb (!c) s1 := ⟨id, id⟩
theorem x_isi {T : String} : wisi T oa s Q ↔ evO oa s fun t s1 => ∃ x, t.at s1 = some x ∧ on x = true ∧ ∃ t, tagD x = some t ∧ Q (.bl (isaD T t)) s1 := ⟨id, id⟩
theorem x_call {W : FW} {as : List AE} : wcall W as s Q ↔ wargs as s fun xs ls s1 => W xs fun d outs => putB ls outs s1 fun s2 => Q d s2 := ⟨id, id⟩
theorem x_args0 {k : List D → Lent → DS → Prop} : wargs [] s k ↔ k [] [] s := ⟨id, id⟩
theorem x_argsV {k : List D → Lent → DS → Prop} {as : List AE} : wargs (.V a :: as) s k ↔ a s fun x s1 => wargs as s1 fun xs ls s2 => k (x :: xs) (none :: ls) s2 := ⟨id, id⟩
theorem x_argsL {k : List D → Lent → DS → Prop} {as : List AE} {pl : PL} : wargs (.L pl :: as) s k ↔ ∃ c g, pl s = some (c, g) ∧ ∀ v, wargs as (g (.hole v)) fun xs ls s2 => k (c :: xs) (some (pl, v) :: ls) s2 := ⟨id, id⟩
theorem x_put0 : putB [] [] s k ↔ k s := ⟨id, id⟩
theorem x_putN {ls : Lent} {os : List D} : putB (none :: ls) (d :: os) s k ↔ putB ls os s k := ⟨id, id⟩
theorem x_putS {ls : Lent} {os : List D} {pl : PL} {v : V} : putB (some (pl, v) :: ls) (d :: os) s k ↔ ∃ h g, pl s = some (h, g) ∧ h = .hole v ∧ putB ls os (g d) k := ⟨id, id⟩
theorem x_evN {i : Nat} {k : Tok → DS → Prop} : evO (.N i) s k ↔ onAt s i = true ∧ k (.n i) s := ⟨id, id⟩
theorem x_evE {k : Tok → DS → Prop} : evO (.E a) s k ↔ a s fun x s1 => k (.d x) s1 := ⟨id, id⟩
theorem x_ev0 {k : List Tok → DS → Prop} : evOs [] s k ↔ k [] s := ⟨id, id⟩
theorem x_evC {k : List Tok → DS → Prop} {os : List Opd} : evOs (oa :: os) s k ↔ evO oa s fun t s1 => evOs os s1 fun ts s2 => k (t :: ts) s2 := ⟨id, id⟩
theorem x_atN {i : Nat} : (Tok.n i).at s = s[i]? := by rw [Tok.at]
theorem x_atD : (Tok.d x).at s = some x := by rw [Tok.at]
theorem x_metN {i : Nat} {T : String} {o : DM} : wmetN i T o r s Q ↔ (∃ d, s[i]? = some d ∧ tyD T d) ∧ r s fun xs s1 => ∃ d, s1[i]? = some d ∧ d ≠ .off ∧ o d xs fun z d' => Q z (s1.set i d') := ⟨id, id⟩
theorem x_pn {k : Option Int → DS → Prop} : wpn s k ↔ k none s := ⟨id, id⟩
theorem x_ps {k : Option Int → DS → Prop} : wps a s k ↔ a s fun x s1 => ∃ i, x = .int i ∧ k (some i) s1 := ⟨id, id⟩
theorem x_sl {lo hi : DP} : wsl oa lo hi s Q ↔ evO oa s fun t s1 => lo s1 fun l s2 => hi s2 fun u s3 => ∃ x, t.at s3 = some x ∧ on x = true ∧ o_sl x l u fun z => Q z s3 := ⟨id, id⟩
theorem x_rg1 {k : List D → DS → Prop} : irange1 oa s k ↔ evO oa s fun t s1 => ∃ j, t.at s1 = some (.int j) ∧ (-(2 ^ 62) ≤ j ∧ j < 2 ^ 62) ∧ k (rangeD 0 j.toNat) s1 := ⟨id, id⟩
theorem x_orT : worT a b s Q ↔ a s fun x s1 => ∃ c, truD x = some c ∧ if c = true then Q x s1 else b s1 Q := ⟨id, id⟩
theorem x_lrg2 : wlrg2 a b s Q ↔ a s fun x s1 => b s1 fun y s2 => ∃ i j, x = .int i ∧ y = .int j ∧ RgOk i j ∧ Q (.lst true (rangeD i (j - i).toNat)) s2 := ⟨id, id⟩
theorem x_endR {bs : List Bool} {R : D → List D → Prop} : (endsB bs R).rt d s ↔ R d (outsB bs s) := ⟨id, id⟩
theorem x_endN {bs : List Bool} {R : D → List D → Prop} : (endsB bs R).nx s ↔ R .non (outsB bs s) := ⟨id, id⟩
theorem x_outT {bs : List Bool} : outsB (true :: bs) (d :: s) = d :: outsB bs s := by simp only [outsB]
theorem x_outF {bs : List Bool} : outsB (false :: bs) (d :: s) = .off :: outsB bs s := by simp only [outsB]
theorem x_out0 : outsB [] s = [] := by cases s <;> simp only [outsB]
theorem x_keyC : keyAt (.c d) s = some d := by rw [keyAt]
theorem x_keyN {i : Nat} : keyAt (.n i) s = s[i]? := by rw [keyAt]
theorem y_int {i : Int} : fz (.int i) = .int i := by rw [fz]
theorem y_bl {i : Bool} : fz (.bl i) = .bl i := by rw [fz]
theorem y_str {i : Str} : fz (.str i) = .str i := by rw [fz]
theorem y_non : fz .non = .non := by rw [fz]
theorem y_tup {xs : List D} : fz (.tup xs) = .tup (fzL xs) := by rw [fz]
theorem y_lst {o : Bool} {xs : List D} : fz (.lst o xs) = .lst false (fzL xs) := by rw [fz]
theorem y_frl {xs : List D} : fz (.frl xs) = .frl (fzL xs) := by rw [fz]
theorem y_nil : fzL [] = [] := by rw [fzL]
theorem y_cons {x : D} {xs : List D} : fzL (x :: xs) = fz x :: fzL xs := by rw [fzL]
end
end M
namespace M
open PySem PySem.Spec PyProof.Rows L2
theorem ints_rpl {K : PySem.W.Frag} {F H : Hp} : ∀ ns : List Int, RpL K F H (ns.map D.int) (ns.map V.int) []
  | [] => .nil
  | n :: ns => .cons (M := []) (N := []) (.int n) (ints_rpl ns)
theorem walk_D {l : PySem.W.OpenLaw} {n k : Nat} {q : Program} {loose : List Str} {XP : (Str → Option Value) → Heap → Prop} {YP : World → Heap → Prop} {d : DefRec} {K : Params → PySem.W.Frag} {x : Str} (S : FW) (hn : l.most = some n) (hn2 : n ≤ sizeLine) (hdf : d.params.defaults = []) (hr : Room k callerA)
    (hY : ∀ (w : World) (h : Heap), YP w h → (K w.params).In h)
    (F : ∀ (w : World) (mg : Str → Option Value) (fa : Addr) (h : Heap), (K w.params).In h → h.Ns mainGlobals mg → mg d.name = some (.ref fa) → ∃ fd : FuncData, (∀ (s : Shared) (u : Value), BindsTo s fd { pos := [u] } [(x, u)]) ∧ ∀ base : Heap, (K w.params).In base → base.Ns mainGlobals mg → FnG l.prog w (K w.params) mg base k fa fd [x] (spM (K w.params) 1 S))
    (hS : ∀ ns : List Int, ns.length ≤ n → S [.frl (ns.map .int)] fun d _ => d = .bl true) : PySem.W.WalkO q loose XP YP l.row.toRowW d [] fun f vs => call f vs :=
  walk_ofG (sp := fun w => spM (K w.params) 1 S) hn hn2 hdf hr hY F fun w H a ns hl ho hs => ⟨H, [], [.frl (ns.map .int)], fun d _ => d = .bl true, ⟨fun a u h => .inl h, List.nodup_nil, fun a h => (nomatch h), fun a h => (nomatch h)⟩, RpL.cons (M := []) (N := []) (.frl hs (ints_rpl ns)) .nil, rfl, hS ns hl, fun v H' F' B B' d outs _ _ r _ e => by
    subst e
    cases r
    rfl⟩
end M

namespace M
open PySem PySem.Spec PyProof.Rows L2
section
variable {X : Cx} {pos : Pos} {ro : List Nat}
/-! ### xs[::-1] of a list -/
theorem RpL.app0 {K : PySem.W.Frag} {F H : Hp} {ds : List D} {vs : List V} (l : RpL K F H ds vs []) : RpL K F H ds.reverse vs.reverse [] := by
  have h : ∀ {ds : List D} {vs : List V} {M : List Addr}, RpL K F H ds vs M → M = [] → RpL K F H ds.reverse vs.reverse [] := by
    intro ds
    induction ds with
    | nil => intro vs M l e; cases l; exact .nil
    | cons d ds ih =>
      intro vs M l e
      cases l with
      | cons r l =>
        obtain ⟨rfl, rfl⟩ := List.append_eq_nil_iff.mp e
        rw [List.reverse_cons, List.reverse_cons]
        have := RpL.app (ih l rfl) (RpL.cons r (RpL.nil (K := K) (F := F) (H := H)))
        exact this
  exact h l rfl
def o_rev : Op1 := fun x Q => ∃ xs, lstOf x = some xs ∧ fzL xs = xs ∧ Q (.lst true xs.reverse)
theorem me_revL {e : Expr} {oa : Opd} {k : Nat} {p1 p2 p3 : Pos} (ha : MO X e oa) : ME X (.Subscript e (.Slice none none (some (.UnaryOp .USub (.Constant (.int 1) k p1) p2)) p3) pos) (wop1 o_rev oa) := ⟨fun {F H M σ ds Q} w0 s0 q => by
  refine to_wE (pe_revL (pe_w e)) (one ha (R := fun x H1 Q => ∃ a xs, x = .ref a ∧ SqL X.K H1 a xs ∧ ∀ p, H1 p = none → Q (.ref p) (upd H1 p (.lst xs.reverse))) ?_ w0 s0 q)
  intro F H M A x v Q k w rx sx o h
  obtain ⟨xs, e0, e1, o⟩ := o
  obtain ⟨a, us, _, rfl, q1, l1, _⟩ := rx.seq w.sub e0
  exact ⟨a, us, rfl, q1, fun p hp => h _ _ (made_lst w hp (RpL.app0 (l1.ice0 e1)) o)⟩⟩
/-! ### list(range(n)) -/
def wlrg1 (a : DE) : DE := fun s Q => a s fun x s1 => ∃ j, x = .int j ∧ RgOk 0 j ∧ Q (.lst true (rangeD 0 (j - 0).toNat)) s1
theorem me_lrg1 {a : Expr} {wa : DE} {p pr posr : Pos} (hc : X.calm = true) (hml : X.mg "list" = none) (hmr : X.mg "range" = none) (ha : ME X a wa) (hgl : Gl X "list" := by rfl) (hgr : Gl X "range" := by rfl)
    (h0 : starEach [.Call (.Name "range" pr) [a] [] posr] X.env = (false, eval (.Call (.Name "range" pr) [a] [] posr) X.env) :: starEach [] X.env := by rfl)
    (h1 : starEach [a] X.env = (false, eval a X.env) :: starEach [] X.env := by rfl) : ME X (.Call (.Name "list" p) [.Call (.Name "range" pr) [a] [] posr] [] pos) (wlrg1 wa) := ⟨fun {F H M σ ds Q} w0 s0 q => by
  refine to_wE (pe_listRg hc hgl hml (prg_1 hgr hmr (pe_w a) h1) h0) ?_
  refine (ha.run w0 s0 (Q := fun x s1 => _) q).imp fun v H1 ⟨d, ds1, F1, N, M1, w1, t1, r1, s1, j, e1, hok, k1⟩ => ?_
  subst e1
  obtain ⟨rfl, rfl⟩ := r1.of_int
  refine ⟨j, rfl, hok, fun q hq => ?_⟩
  obtain ⟨w3, t3, e3⟩ := new_own (o := .lst (rgV 0 j)) w1 hq
  exact ⟨_, ds1, F1, [q], M1, w3, t1.trans w0 w1 t3, .lstO upd_same (rgV_rp 0 _), s1.mono (fun _ _ h => h) fun a h => e3 a h, k1⟩⟩
/-! ### sorted of whole numbers -/
def o_sorted : OpL := fun xs Q => ∃ x ns, xs = [x] ∧ lstOf x = some (ns.map D.int) ∧ ns.length < 64 ∧ ∀ ns' : List Int, ns'.Perm ns → ns'.Pairwise (· ≤ ·) → Q (.lst true (ns'.map D.int))
theorem cm_sorted : CallM X (.builtin "sorted") o_sorted := by
  intro F H M A xs vs Q k w rl sl o h
  obtain ⟨x, ns, rfl, e0, hl, q⟩ := o
  obtain ⟨v, rfl, r⟩ := rl.inv1
  obtain ⟨a, us, _, rfl, q1, l1, _⟩ := r.seq w.sub e0
  have := intsV l1
  subst this
  exact ⟨_, cr_sorted, a, ns, rfl, q1, hl, fun ns' p hp hs hn => h _ _ (made_lst w hn (ints_rpl ns') (q ns' hp hs))⟩
/-! ### d.get(k, other) -/
def wdget (oa ob : Opd) (c : DE) : DE := fun s Q => evO oa s fun t s1 => (∃ o kvs, t.at s1 = some (.dK o kvs)) ∧ evO ob s1 fun u s2 => c s2 fun z s3 => ∃ o kvs y k, t.at s3 = some (.dK o kvs) ∧ u.at s3 = some y ∧ keyD y = some k ∧ match getK kvs k with
  | some d => fz d = d ∧ Q d s3
  | none => Q z s3
theorem Rp.isD {K : PySem.W.Frag} {F H : Hp} (w : Sub F H) {o : Bool} {kvs : List (Key × D)} {v : V} {M : List Addr} (h : Rp K F H (.dK o kvs) v M) : ∃ a, v = .ref a ∧ IsD H a := by
  obtain ⟨a, hk, _, rfl, q, _⟩ := h.dict w
  exact ⟨a, rfl, .inl ⟨hk, q⟩⟩
theorem getK_none {κ α β : Type} [DecidableEq κ] {xs : List (κ × α)} {ys : List (κ × β)} (h : xs.map (·.1) = ys.map (·.1)) {k : κ} (e : getK ys k = none) : getK xs k = none := by
  have := valV_some h k
  rw [e] at this
  cases e1 : getK xs k with
  | none => rfl
  | some v => rw [e1] at this; cases this
theorem me_dget {eo e f : Expr} {oa ob : Opd} {c : DE} {apos cpos : Pos} (hu : X.A.units + 1 < cLine) (ha : MO X eo oa) (hb : MO X e ob) (hc : ME X f c)
    (h1 : attributeBase eo "get" X.env (eval eo X.env) = eval eo X.env := by rfl)
    (h2 : ((((backTo cpos (starEach [e, f] X.env)).all fun x => !x.fst) && (backToKw cpos (keywordEach [] X.env)).all fun x => x.fst.isSome) && decide (([e, f].length + ([] : List Keyword).length + if ([] : List Keyword).isEmpty = true then 0 else 1) < 30)) = true := by rfl)
    (h3 : (apos.endLine == cpos.line) = true := by rfl) (h4 : backTo cpos (starEach [e, f] X.env) = [(false, eval e X.env), (false, eval f X.env)] := by rfl) : ME X (.Call (.Attribute eo "get" apos) [e, f] [] cpos) (wdget oa ob c) := ⟨fun {F H M σ ds Q} w0 s0 q => by
  refine to_wE (pe_dget2 hu (pe_w eo) (pe_w e) (pe_w f) ⟨h1, h2, h3, h4⟩) ?_
  refine (ha.run w0 s0 (k := fun t s1 => _) q).imp fun v H1 ⟨t, ds1, F1, N, M1, w1, t1, r1, s1, ⟨o1, kv1, et1⟩, k1⟩ => ?_
  obtain ⟨A, ra, sa⟩ := r1.look s1 et1 (fun z => nomatch z)
  obtain ⟨a, rfl, hd⟩ := ra.isD w1.sub
  refine ⟨a, rfl, hd, ?_⟩
  refine (hb.run (w1.part (List.sublist_append_right _ _)) s1 (k := fun t s1 => _) k1).imp fun y H2 ⟨u, ds2, F2, N2, M2, w2, t2, r2, s2, k2⟩ => ?_
  have n2 := next w0 w1 t1 w2 t2
  refine (hc.run (w2.part (List.sublist_append_right _ _)) s2 (Q := fun x s1 => _) k2).imp fun z H3 ⟨dz, ds3, F3, N3, M3, w3, t3, r3, s3, o, kvs, dy, key, e1, e2, e3, k3⟩ => ?_
  have n3 := next w0 n2.wd n2.tr w3 t3
  have r1' := (r1.mono n2.up n2.same).mono n3.up fun a h => n3.same a (List.mem_append_left _ h)
  have r2' := r2.mono n3.up fun a h => n3.same a (List.mem_append_right _ h)
  obtain ⟨A3, ra3, sa3⟩ := r1'.look s3 e1 (fun z => nomatch z)
  obtain ⟨B3, rb3, sb3⟩ := r2'.look s3 e2 (fun z => by subst z; cases e3)
  obtain ⟨a', hk, M', eq, rd, ek, l, _⟩ := ra3.dict n3.wd.sub
  cases eq
  have ev := keyD_v rb3 e3
  subst ev
  cases eg : getK kvs key with
  | none =>
    rw [eg] at k3
    refine ⟨none, .inl ⟨hk, key, rd, rfl, (getK_none ek eg).symm⟩, ?_⟩
    have sub : (N3 ++ M3).Sublist (((N ++ N2) ++ N3) ++ M3) := by rw [List.append_assoc (N ++ N2)]; exact List.sublist_append_right _ _
    exact ⟨dz, ds3, F3, N3, M3, n3.wd.part sub, n3.tr.drop fun a h => sub.subset h, r3, s3, k3⟩
  | some d =>
    rw [eg] at k3
    obtain ⟨zv, N', e4, r4, _⟩ := RpL.val ek l eg
    refine ⟨some zv, .inl ⟨hk, key, rd, rfl, e4.symm⟩, ?_⟩
    exact made_res w0 n3.wd n3.tr s3 (made0 n3.wd (r4.ice0 k3.1) k3.2)⟩
end
end M

namespace M
open PySem PySem.Spec PyProof.Rows L2
section
variable {X : Cx} {pos : Pos}
/-! ### dict displays by any keys -/
def wdG : List (DE × DE) → DS → (List (Key × D) → DS → Prop) → Prop
  | [], s, k => k [] s
  | (a, b) :: r, s, k => a s fun x s1 => b s1 fun y s2 => ∃ key, keyD x = some key ∧ wdG r s2 fun kvs s3 => k ((key, y) :: kvs) s3
def wdict (ps : List (DE × DE)) : DE := fun s Q => wdG ps s fun kvs s1 => (kvs.map (·.1)).Nodup ∧ Q (.dK true kvs) s1
theorem key_own {K : PySem.W.Frag} {F H : Hp} {x : D} {v : V} {N : List Addr} {k : Key} (r : Rp K F H x v N) (e : keyD x = some k) : N = [] := by
  cases r <;> first
    | rfl
    | cases e
structure MDs (X : Cx) (pos : Pos) (keys : List (Option Expr)) (values : List Expr) (ps : List (DE × DE)) : Prop where
  run : ∃ es : List (Expr × Expr), PPs X pos keys values (es.map fun e => (wE X e.1, wE X e.2)) ∧ keys.length = ps.length ∧ values.length = ps.length ∧ (keys.all fun x => x.isSome) = true ∧ ∀ {F H : Hp} {M : List Addr} {σ : L2.St} {ds : DS} {k : List (Key × D) → DS → Prop}, Wd F H M → SR X.K F H ds σ M → wdG ps ds k →
    tPairs (es.map fun e => (wE X e.1, wE X e.2)) σ H (fun pr H' => ∃ (kvs : List (Key × D)) (hk : List (Key × V)) (ds' : DS) (F' : Hp) (N M' : List Addr), pr = hk.map (fun kv => (kV kv.1, kv.2)) ∧ hk.length = ps.length ∧ hk.map (·.1) = kvs.map (·.1) ∧ Wd F' H' (N ++ M') ∧ Tr F H M F' H' (N ++ M') ∧ RpL X.K F' H' (kvs.map (·.2)) (hk.map (·.2)) N ∧ SR X.K F' H' ds' σ M' ∧ k kvs ds')
theorem mds_nil : MDs X pos [] [] [] := ⟨[], pps_nil, rfl, rfl, rfl, fun {F H M σ ds k} w s q => ⟨[], [], ds, F, [], M, rfl, rfl, rfl, w, Tr.refl F H M, .nil, s, q⟩⟩
theorem mds_cons {e v : Expr} {keys : List (Option Expr)} {values : List Expr} {ps : List (DE × DE)} {a b : DE} (h0 : ME X e a) (h1 : ME X v b) (h2 : MDs X pos keys values ps) : MDs X pos (some e :: keys) (v :: values) ((a, b) :: ps) := by
  obtain ⟨es, hp, l1, l2, l3, run⟩ := h2.run
  refine ⟨(e, v) :: es, pps_cons (pe_w e) (pe_w v) hp, congrArg (· + 1) l1, congrArg (· + 1) l2, by rw [List.all_cons, l3]; rfl, fun {F H M σ ds k} w0 s0 q => ?_⟩
  refine (h0.run w0 s0 (Q := fun x s1 => _) q).imp fun u0 H0 ⟨d0, ds0, F0, N0, M0, w00, t0, r0, s00, k0⟩ => ?_
  refine (h1.run (w00.part (List.sublist_append_right _ _)) s00 (Q := fun x s1 => _) k0).imp fun u H1 ⟨d, ds1, F1, N, M1, w1, t1, r1, s1, key, ek, k1⟩ => ?_
  have e0 := key_own r0 ek
  subst e0
  have ev := keyD_v r0 ek
  subst ev
  have t01 := t0.trans w0 w00 t1
  refine tPairs_imp (run (w1.part (List.sublist_append_right _ _)) s1 k1) fun pr H2 ⟨kvs, hk, ds2, F2, N2, M2, eps, hl, ekk, w2, t2, r2, s2, k2⟩ => ?_
  have n := next w0 w1 t01 w2 t2
  exact ⟨(key, d) :: kvs, (key, u) :: hk, ds2, F2, N ++ N2, M2, by rw [eps]; rfl, congrArg (· + 1) hl, by rw [List.map_cons, List.map_cons, ekk], n.wd, n.tr, .cons (r1.mono n.up n.same) r2, s2, k2⟩
theorem me_dictG {keys : List (Option Expr)} {values : List Expr} {ps : List (DE × DE)} (h : MDs X pos keys values ps) (h0 : keys ≠ [] := by exact fun z => nomatch z) (h15 : keys.length ≤ 15 := by decide) : ME X (.Dict keys values pos) (wdict ps) := ⟨fun {F H M σ ds Q} w0 s0 q => by
  obtain ⟨es, hp, l1, l2, l3, run⟩ := h.run
  refine to_wE (pe_disp hp l3 (l1.trans l2.symm) h0 h15) fun p hp => ?_
  obtain ⟨w1, t1, e1⟩ := new_own (o := .dK []) w0 hp
  have w1' : Wd F (upd H p (.dK [])) (M ++ [p]) := w1.perm List.perm_append_comm
  have s1 := s0.mono (fun _ _ h => h) fun a h => e1 a h
  refine tPairs_imp (run (w1'.part (List.sublist_append_left _ _)) s1 q) fun pr H2 ⟨kvs, hk, ds2, F2, N2, M2, eps, hl, ekk, w2, t2, r2, s2, nd, k2⟩ => ?_
  have b := frame w1' t2 w2
  have ep : H2 p = some (.dK []) := (b.same p List.mem_cons_self).trans upd_same
  refine ⟨ep, hk, eps, ?_, ?_⟩
  · rw [hl, ← l1]; exact h15
  · have em : mergeK [] hk = hk := merge_new (by rw [List.nil_append, ekk]; exact nd)
    rw [em]
    obtain ⟨w3, t3, e3⟩ := set_own (o := .dK hk) b.wd (p := p) (List.mem_append_right _ List.mem_cons_self)
    have ne : ∀ a ∈ N2 ++ M2, a ≠ p := fun a h z => by
      subst z
      exact (List.nodup_append.mp b.wd.nd).2.2 a h a List.mem_cons_self rfl
    have pp : (((p :: N2) ++ M2)).Perm ((N2 ++ M2) ++ [p]) := (List.perm_append_comm (l₁ := [p]) (l₂ := N2 ++ M2))
    have t01 : Tr F H M F (upd H p (.dK [])) (M ++ [p]) := t1.drop fun a h => (List.perm_append_comm (l₁ := M) (l₂ := [p])).mem_iff.mp h
    have tt := (t01.trans w0 w1' b.tr).trans w0 b.wd t3
    exact ⟨.dK true kvs, ds2, F2, p :: N2, M2, w3.perm pp, tt.drop fun a h => pp.mem_iff.mp h, .dKO upd_same ekk (r2.mono (fun _ _ h => h) fun a h => e3 a (ne a (List.mem_append_left _ h))), s2.mono (fun _ _ h => h) fun a h => e3 a (ne a (List.mem_append_right _ h)), k2⟩⟩
def wdict0 : DE := fun s Q => Q (.dK true []) s
theorem me_dict0 : ME X (.Dict [] [] pos) wdict0 := ⟨fun {F H M σ ds Q} w0 s0 q => by
  refine to_wE pe_dnewK fun p hp => ?_
  obtain ⟨w1, t1, e1⟩ := new_own (o := .dK []) w0 hp
  exact ⟨.dK true [], ds, F, [p], M, w1, t1, .dKO (hk := []) upd_same rfl .nil, s0.mono (fun _ _ h => h) fun a h => e1 a h, q⟩⟩
end
end M

namespace M
open PySem PySem.Spec PyProof.Rows L2
section
variable {X : Cx} {pos : Pos}
/-! ### sorted(whole numbers, key=f), f a built-in that tells a whole number -/
theorem each_ints : ∀ {ns : List Int} {its : List Value}, Vals (ns.map V.int) its → PySem.W.EachIs (fun v n => ∃ t, v = Value.int n t) its ns
  | [], _, h => by cases h; exact .nil
  | n :: ns, _, h => by
    cases h with
    | cons r rs =>
      obtain ⟨t, rfl⟩ := r
      exact .cons ⟨t, rfl⟩ (each_ints rs)
theorem ints_each : ∀ {ns : List Int} {its : List Value}, PySem.W.EachIs (fun v n => ∃ t, v = Value.int n t) its ns → Vals (ns.map V.int) its
  | _, _, .nil => .nil
  | _, _, .cons ⟨t, e⟩ rs => .cons ⟨t, e⟩ (ints_each rs)
theorem sortedKey_run {f : Value} {kf : Int → Int} {pins : List (Addr × Obj)} {s : Shared} {σ : L2.St} {H : Hp} {a : Addr} {ns : List Int} {Q : VK} (hu : X.A.units + 10 < cLine) (I : Inv X pins σ H s) (hq : SqL X.K H a (ns.map V.int))
    (hT : ∀ x : Addr, Builtin.«list.sort» { pos := [Value.ref x], kw := [("key", f)] } = ksk_tree x f false) (hk : ∀ (n : Int) (t : PySem.Tok) (s1 : Shared), wpAny (model X.prog X.w) X.A.in1.in1 (call f [.int n t]) (PySem.W.KeyPure (.int (kf n)) s1) (fun _ _ => False) s1)
    (h : ∀ p, H p = none → Q (.ref p) (upd H p (.lst ((ns.mergeSort (PySem.W.dataLe false fun n => .int (kf n))).map V.int)))) :
    wpAny (model X.prog X.w) X.A (call (.builtin "sorted") [.ref a] [("key", f)]) (EP X pins σ Q) X.xe s := by
  obtain ⟨its, rv, p, hl⟩ := I.list hq
  have he := each_ints rv
  have hlen : ns.length ≤ sizeLine := by rw [List.length_map] at hl; exact hl
  refine PySem.W.sorted_key_data (vs := its) (bs := ns) (b := false) (fun n => PyData.int (kf n)) p.isList he (PySem.W.AllAlike.of fun _ _ => rfl) (PySem.W.Sortable.others fun n => ⟨(fun z => nomatch z), fun _ z => nomatch z⟩) hlen ?_ (ksk_s1 _ _) (fun x => ksk_l1 _ _) hT ?_ ?_
  · intro x _
    have : (PyData.int (kf x)).depth = 0 := by simp only [PyData.depth]
    rw [this]
    omega
  · rintro v n ⟨t, rfl⟩ _ hh tk keep
    exact hk n t _
  · intro out c h' tk keep hnone hget hol heo
    have hH : H (s.heap.objs.size + 1) = none := I.hok.fresh (by omega)
    refine ⟨.ref (s.heap.objs.size + 1), _, I.laid (o := .lst ((ns.mergeSort (PySem.W.dataLe false fun n => .int (kf n))).map V.int)) keep (by omega) ⟨?_, out, c, ints_each heo, hget⟩, rfl, h _ hH⟩
    rw [List.length_map, List.length_mergeSort]
    exact hlen
/-- what abs tells, as a key -/
theorem key_abs {prog : Program} {w : World} {A : Around} (n : Int) (t : PySem.Tok) (s1 : Shared) : wpAny (model prog w) A (call (.builtin "abs") [.int n t]) (PySem.W.KeyPure (.int (absI n)) s1) (fun _ _ => False) s1 :=
  call_abs_int fun u tk => ⟨s1.heap, tk, rfl, fun _ _ h => h, show Reads s1.heap (Value.int (absI n) u) (.int (absI n)) [] from .int _ _⟩
theorem dataLe_int {kf : Int → Int} {a b : Int} : PySem.W.dataLe false (fun n => PyData.int (kf n)) a b = decide (kf a ≤ kf b) := by
  simp only [PySem.W.dataLe, PySem.W.sortLe, PySem.W.keyToks, listOrd]
  show (!PyProof.Rows.lexLt itemOrd [Sum.inl (kf b)] [Sum.inl (kf a)]) = _
  unfold PyProof.Rows.lexLt
  have e0 : PyProof.Rows.lexLt itemOrd [] [] = false := by unfold PyProof.Rows.lexLt; rfl
  rw [e0, Bool.and_false, Bool.or_false]
  show (!decide (kf b < kf a)) = decide (kf a ≤ kf b)
  by_cases h : kf b < kf a
  · rw [decide_eq_true h, decide_eq_false (by omega)]; rfl
  · rw [decide_eq_false h, decide_eq_true (by omega)]; rfl
/-- the call sorted(e, key=abs) -/
theorem pe_sortAbs {e : Expr} {te : TE} {p pk pn : Pos} (hu : X.A.units + 10 < cLine) (hm : X.mg "sorted" = none) (hma : X.mg "abs" = none) (he : PE X e te) (hg : Gl X "sorted" := by rfl) (hga : Gl X "abs" := by rfl)
    (hs : starEach [e] X.env = (false, eval e X.env) :: starEach [] X.env := by rfl)
    (h1 : backTo pos (starEach [e] X.env) = (false, eval e X.env) :: backTo pos (starEach [] X.env) := by rfl) (h2 : ((backTo pos (starEach [e] X.env)).any fun x => x.1) = false := by rfl) :
    PE X (.Call (.Name "sorted" p) [e] [⟨some "key", .Name "abs" pn, pk⟩] pos) (fun σ H Q => tCons te tNil σ H fun vs H1 => ∃ (a : Addr) (ns : List Int), vs = [.ref a] ∧ SqL X.K H1 a (ns.map V.int) ∧ ∀ p, H1 p = none → Q (.ref p) (upd H1 p (.lst ((ns.mergeSort (PySem.W.dataLe false fun n => .int (absI n))).map V.int)))) := ⟨fun pins s σ H Q I h => by
  refine wpAny_Call_Name_kw (ld_blt (u := .builtin "sorted") I hg hm (by decide +kernel) ?_ (by decide) (by decide))
  refine callWith_kw (thn ((pa_cons he pa_nil hs).run pos pins s σ H (fun vs H1 => ∃ (a : Addr) (ns : List Int), vs = [.ref a] ∧ SqL X.K H1 a (ns.map V.int) ∧ ∀ p, H1 p = none → Q (.ref p) (upd H1 p (.lst ((ns.mergeSort (PySem.W.dataLe false fun n => .int (absI n))).map V.int)))) I h) fun us s1 ⟨vs, H1, I1, r1, a, ns, ev, hq, q⟩ => ?_) h1 h2 (by rfl) (by rfl)
  · subst ev
    cases r1 with
    | cons ru rn =>
    cases rn
    cases ru
    refine id (wpAny_evalAll_cons (wpAny_bind (ld_blt (u := .builtin "abs") I1 hga hma (by decide +kernel) (wpAny_bind (wpAny_standAt (wpAny_pure ?_))) (by decide) (by decide))))
    exact wpAny_evalAll_nil (sortedKey_run hu I1 hq (fun x => rfl) (fun n t s => key_abs n t s) q)⟩
def o_sortAbs : Op1 := fun x Q => ∃ ns : List Int, lstOf x = some (ns.map D.int) ∧ Q (.lst true ((ns.mergeSort fun i j => decide (absI i ≤ absI j)).map D.int))
theorem me_sortAbs {e : Expr} {oa : Opd} {p pk pn : Pos} (hu : X.A.units + 10 < cLine) (hm : X.mg "sorted" = none) (hma : X.mg "abs" = none) (ha : MO X e oa) (hg : Gl X "sorted" := by rfl) (hga : Gl X "abs" := by rfl)
    (hs : starEach [e] X.env = (false, eval e X.env) :: starEach [] X.env := by rfl)
    (h1 : backTo pos (starEach [e] X.env) = (false, eval e X.env) :: backTo pos (starEach [] X.env) := by rfl) (h2 : ((backTo pos (starEach [e] X.env)).any fun x => x.1) = false := by rfl) :
    ME X (.Call (.Name "sorted" p) [e] [⟨some "key", .Name "abs" pn, pk⟩] pos) (wop1 o_sortAbs oa) := ⟨fun {F H M σ ds Q} w0 s0 q => by
  refine to_wE (pe_sortAbs hu hm hma (pe_w e) hg hga hs h1 h2) (one ha (R := fun x H1 Q => ∃ (a : Addr) (ns : List Int), [x] = [V.ref a] ∧ SqL X.K H1 a (ns.map V.int) ∧ ∀ p, H1 p = none → Q (.ref p) (upd H1 p (.lst ((ns.mergeSort (PySem.W.dataLe false fun n => .int (absI n))).map V.int)))) ?_ w0 s0 q)
  intro F H M A x v Q k w rx sx o h
  obtain ⟨ns, e0, o⟩ := o
  obtain ⟨a, us, _, rfl, q1, l1, _⟩ := rx.seq w.sub e0
  have := intsV l1
  subst this
  have ed : (PySem.W.dataLe false fun n => PyData.int (absI n)) = fun i j => decide (absI i ≤ absI j) := funext fun i => funext fun j => dataLe_int
  refine ⟨a, ns, rfl, q1, fun p hp => h _ _ ?_⟩
  rw [ed]
  exact made_lst w hp (ints_rpl _) o⟩
end
end M

namespace Z3
open PySem PyProof.Rows
open PySem.Sem (wp)
section
variable {prog : Program} {w : World} {A : Around} {E : Value → Shared → Prop} {s : Shared} {z TI TO i1 i2 i3 : Addr} {fp1 fp2 fp3 : List Addr} {n1 n2 n3 i : Nat} {P1 P2 P3 : Nat → Value → Prop} {St1 St2 St3 : Nat → Heap → Prop}
/-- the next of a zip of three whose tuple is still held -/
theorem zipD3_item_held {T : Addr} {f : Bool} {oT : Obj} {Q : Value → Shared → Prop} (S : ZipSep3 z TI TO i1 i2 i3 fp1 fp2 fp3) (D1 : Draws prog w A i1 fp1 n1 P1 St1) (D2 : Draws prog w A i2 fp2 n2 P2 St2) (D3 : Draws prog w A i3 fp3 n3 P3 St3)
    (hz : IsZipHeld s.heap z TI TO T f) (hT : s.heap.get? T = some oT) (hTI : IsTupOf3 s.heap TI (.ref i1) (.ref i2) (.ref i3)) (st1 : St1 i s.heap) (st2 : St2 i s.heap) (st3 : St3 i s.heap) (hlt1 : i < n1) (hlt2 : i < n2) (hlt3 : i < n3)
    (hQ : ∀ x1 x2 x3 h' tk, P1 i x1 → P2 i x2 → P3 i x3 → IsZipHeld h' z TI TO T true → St1 (i + 1) h' → St2 (i + 1) h' → St3 (i + 1) h' → IsTupOf3 h' s.heap.objs.size x1 x2 x3 → h'.objs.size = s.heap.objs.size + 1 →
      (∀ c o, c ≠ z → c ≠ i1 → c ≠ i2 → c ≠ i3 → s.heap.get? c = some o → h'.get? c = some o) → Q (.ref s.heap.objs.size) { s with heap := h', toks := tk }) :
    wpAny (model prog w) A (Builtin.«zip.__next__» ⟨[.ref z], []⟩) (fun fin s' => ∃ v, fin = .done (.ret v) ∧ Q v s') E s := by
  obtain ⟨hp, g, d, tk0, os⟩ := s
  show wpAny _ _ (field (.ref z) 2 >>= _) _ _ _
  refine wpAny_bind (wpAny_field hz rfl (x := .bool false) rfl ?_)
  show wpAny _ _ (field (.ref z) 3 >>= _) _ _ _
  refine wpAny_bind (wpAny_field hz rfl (x := .ref TI) rfl ?_)
  refine wpAny_bind (wpAny_seqItems hTI rfl ?_)
  show wpAny _ _ (Builtin.SmallTypes.ownedTupleIsFree (.ref z) >>= _) _ _ _
  refine wpAny_bind (wpAny_tupleHeld_zip hz hT fun g0 hz0 hs0 => ?_)
  replace hs0 : Heap.SameBut z hp g0 := hs0
  simp only [Bool.false_eq_true, if_false]
  refine wpAny_bind ?_
  rw [← Array.forIn_toList]
  simp only [List.forIn_cons, List.forIn_nil]
  refine wpAny_bind (wpAny_bind (wpAny_holding ?_))
  show wpAny _ _ (Builtin.SmallTypes.nextOf (.ref i1) >>= _) _ _ ⟨g0, g, d, tk0, os⟩
  refine wpAny_bind (D1.item i _ _ _ hlt1 (D1.over st1 hs0 S.zf1) fun x1 p1 tk1 hx1 sn1 hp1 => wpAny_pure ?_)
  replace hp1 : Heap.SameBut i1 g0 p1 := hp1
  refine wpAny_pure ?_
  refine wpAny_bind (wpAny_bind (wpAny_holding ?_))
  show wpAny _ _ (Builtin.SmallTypes.nextOf (.ref i2) >>= _) _ _ ⟨p1, g, d, tk1, os⟩
  refine wpAny_bind (D2.item i _ _ _ hlt2 (D2.over (D2.over st2 hs0 S.zf2) hp1 S.sep1_2) fun x2 p2 tk2 hx2 sn2 hp2 => wpAny_pure ?_)
  replace hp2 : Heap.SameBut i2 p1 p2 := hp2
  refine wpAny_pure ?_
  refine wpAny_bind (wpAny_bind (wpAny_holding ?_))
  show wpAny _ _ (Builtin.SmallTypes.nextOf (.ref i3) >>= _) _ _ ⟨p2, g, d, tk2, os⟩
  refine wpAny_bind (D3.item i _ _ _ hlt3 (D3.over (D3.over (D3.over st3 hs0 S.zf3) hp1 S.sep1_3) hp2 S.sep2_3) fun x3 p3 tk3 hx3 sn3 hp3 => wpAny_pure ?_)
  replace hp3 : Heap.SameBut i3 p2 p3 := hp3
  refine wpAny_pure (wpAny_pure ?_)
  show wpAny _ _ (newTuple [x1, x2, x3] >>= _) _ _ ⟨p3, g, d, tk3, os⟩
  refine wpAny_bind (wpAny_newTuple ?_)
  have hsz : p3.objs.size = hp.objs.size := by rw [hp3.1, hp2.1, hp1.1, hs0.1]
  have hzz : IsZipHeld p3 z TI TO T true := hp3.extBut _ _ S.zi3 (hp2.extBut _ _ S.zi2 (hp1.extBut _ _ S.zi1 hz0))
  have hkk : ∀ c o, c ≠ z → c ≠ i1 → c ≠ i2 → c ≠ i3 → hp.get? c = some o → p3.get? c = some o := fun c o cz c1 c2 c3 e =>
    hp3.extBut _ _ c3 (hp2.extBut _ _ c2 (hp1.extBut _ _ c1 (hs0.extBut _ _ cz e)))
  have hj1 : St1 (i + 1) p3 := D1.over (D1.over sn1 hp2 S.sep2_1) hp3 S.sep3_1
  have hj2 : St2 (i + 1) p3 := D2.over sn2 hp3 S.sep3_2
  have up : ∀ c o, p3.get? c = some o → (p3.push { cls := .type "tuple", data := .seq #[x1, x2, x3] }).get? c = some o := fun c o e => Heap.get?_push_of_some _ e
  refine wpAny_pure ⟨_, rfl, ?_⟩
  show Q (.ref p3.objs.size) ⟨p3.push { cls := .type "tuple", data := .seq #[x1, x2, x3] }, g, d, tk3, os⟩
  have hTn : IsTupOf3 (p3.push { cls := .type "tuple", data := .seq #[x1, x2, x3] }) p3.objs.size x1 x2 x3 := Heap.get?_push_size _ rfl
  have hz4 : (p3.push { cls := .type "tuple", data := .seq #[x1, x2, x3] }).objs.size = p3.objs.size + 1 := Heap.size_push ..
  rw [hsz] at hTn hz4 ⊢
  exact hQ x1 x2 x3 _ tk3 hx1 hx2 hx3 (up _ _ hzz) (D1.frame _ _ _ hj1 fun b _ o e => up b o e) (D2.frame _ _ _ hj2 fun b _ o e => up b o e) (D3.frame _ _ _ sn3 fun b _ o e => up b o e) hTn hz4 fun c o cz c1 c2 c3 e => up c o (hkk c o cz c1 c2 c3 e)
/-- its end -/
theorem zipD3_end_held {T : Addr} {f : Bool} {oT : Obj} {Q : Fin → Shared → Prop} (S : ZipSep3 z TI TO i1 i2 i3 fp1 fp2 fp3) (D1 : Draws prog w A i1 fp1 n1 P1 St1) (D2 : Draws prog w A i2 fp2 n2 P2 St2) (D3 : Draws prog w A i3 fp3 n3 P3 St3)
    (hz : IsZipHeld s.heap z TI TO T f) (hT : s.heap.get? T = some oT) (hTI : IsTupOf3 s.heap TI (.ref i1) (.ref i2) (.ref i3)) (st1 : St1 i s.heap) (st2 : St2 i s.heap) (st3 : St3 i s.heap) (hle1 : i ≤ n1) (hle2 : i ≤ n2) (hle3 : i ≤ n3) (hend : i = n1 ∨ i = n2 ∨ i = n3)
    (hE : ∀ h' tk e, (∀ c o, c ≠ z → c ≠ i1 → c ≠ i2 → c ≠ i3 → s.heap.get? c = some o → h'.get? c = some o) → (∃ o, h'.get? e = some o ∧ o.cls = .type "StopIteration") → E (.ref e) { s with heap := h', toks := tk }) :
    wpAny (model prog w) A (Builtin.«zip.__next__» ⟨[.ref z], []⟩) Q E s := by
  obtain ⟨hp, g, d, tk0, os⟩ := s
  show wpAny _ _ (field (.ref z) 2 >>= _) _ _ _
  refine wpAny_bind (wpAny_field hz rfl (x := .bool false) rfl ?_)
  show wpAny _ _ (field (.ref z) 3 >>= _) _ _ _
  refine wpAny_bind (wpAny_field hz rfl (x := .ref TI) rfl ?_)
  refine wpAny_bind (wpAny_seqItems hTI rfl ?_)
  show wpAny _ _ (Builtin.SmallTypes.ownedTupleIsFree (.ref z) >>= _) _ _ _
  refine wpAny_bind (wpAny_tupleHeld_zip hz hT fun g0 hz0 hs0 => ?_)
  replace hs0 : Heap.SameBut z hp g0 := hs0
  simp only [Bool.false_eq_true, if_false]
  refine wpAny_bind ?_
  rw [← Array.forIn_toList]
  simp only [List.forIn_cons, List.forIn_nil]
  refine wpAny_bind (wpAny_bind (wpAny_holding ?_))
  show wpAny _ _ (Builtin.SmallTypes.nextOf (.ref i1) >>= _) _ _ ⟨g0, g, d, tk0, os⟩
  by_cases hlt1 : i < n1
  · refine wpAny_bind (D1.item i _ _ _ hlt1 (D1.over st1 hs0 S.zf1) fun x1 p1 tk1 hx1 sn1 hp1 => wpAny_pure ?_)
    replace hp1 : Heap.SameBut i1 g0 p1 := hp1
    refine wpAny_pure ?_
    refine wpAny_bind (wpAny_bind (wpAny_holding ?_))
    show wpAny _ _ (Builtin.SmallTypes.nextOf (.ref i2) >>= _) _ _ ⟨p1, g, d, tk1, os⟩
    by_cases hlt2 : i < n2
    · refine wpAny_bind (D2.item i _ _ _ hlt2 (D2.over (D2.over st2 hs0 S.zf2) hp1 S.sep1_2) fun x2 p2 tk2 hx2 sn2 hp2 => wpAny_pure ?_)
      replace hp2 : Heap.SameBut i2 p1 p2 := hp2
      refine wpAny_pure ?_
      have hi3 : i = n3 := by omega
      refine wpAny_bind (wpAny_bind (wpAny_holding ?_))
      show wpAny _ _ (Builtin.SmallTypes.nextOf (.ref i3) >>= _) _ _ ⟨p2, g, d, tk2, os⟩
      refine wpAny_bind (D3.done ⟨p2, g, d, tk2, os⟩ _ _ (by rw [← hi3]; exact D3.over (D3.over (D3.over st3 hs0 S.zf3) hp1 S.sep1_3) hp2 S.sep2_3) fun q e hq he => ?_)
      replace hq : Heap.ExtBut i3 p2 q := hq
      exact hE q tk2 e (fun c o cz c1 c2 c3 x => hq _ _ c3 (hp2.extBut _ _ c2 (hp1.extBut _ _ c1 (hs0.extBut _ _ cz x)))) he
    · have hi2 : i = n2 := by omega
      refine wpAny_bind (D2.done ⟨p1, g, d, tk1, os⟩ _ _ (by rw [← hi2]; exact D2.over (D2.over st2 hs0 S.zf2) hp1 S.sep1_2) fun q e hq he => ?_)
      replace hq : Heap.ExtBut i2 p1 q := hq
      exact hE q tk1 e (fun c o cz c1 c2 c3 x => hq _ _ c2 (hp1.extBut _ _ c1 (hs0.extBut _ _ cz x))) he
  · have hi1 : i = n1 := by omega
    refine wpAny_bind (D1.done ⟨g0, g, d, tk0, os⟩ _ _ (by rw [← hi1]; exact D1.over st1 hs0 S.zf1) fun q e hq he => ?_)
    replace hq : Heap.ExtBut i1 g0 q := hq
    exact hE q tk0 e (fun c o cz c1 c2 c3 x => hq _ _ c1 (hs0.extBut _ _ cz x)) he
theorem pyNext_held_item {T : Addr} {f : Bool} {oT : Obj} {Q : Option Value → Shared → Prop} (S : ZipSep3 z TI TO i1 i2 i3 fp1 fp2 fp3) (D1 : Draws prog w A.in1 i1 fp1 n1 P1 St1) (D2 : Draws prog w A.in1 i2 fp2 n2 P2 St2) (D3 : Draws prog w A.in1 i3 fp3 n3 P3 St3)
    (hz : IsZipHeld s.heap z TI TO T f) (hT : s.heap.get? T = some oT) (hTI : IsTupOf3 s.heap TI (.ref i1) (.ref i2) (.ref i3)) (st1 : St1 i s.heap) (st2 : St2 i s.heap) (st3 : St3 i s.heap) (hlt1 : i < n1) (hlt2 : i < n2) (hlt3 : i < n3)
    (hQ : ∀ x1 x2 x3 h' tk, P1 i x1 → P2 i x2 → P3 i x3 → IsZipHeld h' z TI TO T true → St1 (i + 1) h' → St2 (i + 1) h' → St3 (i + 1) h' → IsTupOf3 h' s.heap.objs.size x1 x2 x3 → h'.objs.size = s.heap.objs.size + 1 →
      (∀ c o, c ≠ z → c ≠ i1 → c ≠ i2 → c ≠ i3 → s.heap.get? c = some o → h'.get? c = some o) → Q (some (.ref s.heap.objs.size)) { s with heap := h', toks := tk }) :
    wpAny (model prog w) A (pyNext (.ref z)) Q E s := by
  have hTy : s.TypeIs (.ref z) "zip" := ⟨_, hz, rfl⟩
  unfold pyNext
  exact wpAny_bind (wpAny_attempt (wpAny_callSpecial?_slot (name := Str.ofString "__next__") hTy F.slot_zip_next
    (wpAny_call_entry F.slot_zip_next hTy F.entry_zip_next
      (zipD3_item_held S D1 D2 D3 hz hT hTI st1 st2 st3 hlt1 hlt2 hlt3 fun x1 x2 x3 h' tk y1 y2 y3 b1 d1 d2 d3 b5 b6 b7 => wpAny_pure (hQ x1 x2 x3 h' tk y1 y2 y3 b1 d1 d2 d3 b5 b6 b7)) (F.args_zip_next_1 _))))
theorem pyNext_held_end {T : Addr} {f : Bool} {oT : Obj} {Q : Option Value → Shared → Prop} (S : ZipSep3 z TI TO i1 i2 i3 fp1 fp2 fp3) (D1 : Draws prog w A.in1 i1 fp1 n1 P1 St1) (D2 : Draws prog w A.in1 i2 fp2 n2 P2 St2) (D3 : Draws prog w A.in1 i3 fp3 n3 P3 St3)
    (hz : IsZipHeld s.heap z TI TO T f) (hT : s.heap.get? T = some oT) (hTI : IsTupOf3 s.heap TI (.ref i1) (.ref i2) (.ref i3)) (st1 : St1 i s.heap) (st2 : St2 i s.heap) (st3 : St3 i s.heap) (hle1 : i ≤ n1) (hle2 : i ≤ n2) (hle3 : i ≤ n3) (hend : i = n1 ∨ i = n2 ∨ i = n3)
    (hQ : ∀ h' tk, (∀ c o, c ≠ z → c ≠ i1 → c ≠ i2 → c ≠ i3 → s.heap.get? c = some o → h'.get? c = some o) → Q none { s with heap := h', toks := tk }) : wpAny (model prog w) A (pyNext (.ref z)) Q E s := by
  have hTy : s.TypeIs (.ref z) "zip" := ⟨_, hz, rfl⟩
  unfold pyNext
  refine wpAny_bind (wpAny_attempt (wpAny_callSpecial?_slot (name := Str.ofString "__next__") hTy F.slot_zip_next
    (wpAny_call_entry F.slot_zip_next hTy F.entry_zip_next (zipD3_end_held S D1 D2 D3 hz hT hTI st1 st2 st3 hle1 hle2 hle3 hend fun h' tk e hk he => ?_) (F.args_zip_next_1 _))))
  obtain ⟨o, ho, hc⟩ := he
  refine wpAny_bind (wpAny_isInstance (T := "StopIteration") (b := true) ⟨o, ho, hc⟩ isSubtype_stop ?_)
  exact wpAny_pure (hQ _ _ hk)
end
end Z3
namespace Z3
open PySem PyProof.Rows
open PySem.Sem (wp)
theorem zip_no_len : typeLookup (.type "zip") "__len__" = pure none := by rw [typeLookup_type, builtinLookup_eq_fast]; kernel_rfl
theorem zip_no_hint : typeLookup (.type "zip") "__length_hint__" = pure none := by rw [typeLookup_type, builtinLookup_eq_fast]; kernel_rfl
/-- a zip of three from which the list at L takes: fresh, or with its last tuple out -/
structure ZSt (L z TI TO i1 i2 i3 : Addr) (St1 St2 St3 : Nat → Heap → Prop) (i : Nat) (h : Heap) : Prop where
  st : (IsZip h z TI TO .none ∧ ∃ a b c, IsTupOf3 h TO a b c) ∨ (∃ T f oT, IsZipHeld h z TI TO T f ∧ h.get? T = some oT ∧ T ≠ z ∧ T ≠ TO ∧ T ≠ i1 ∧ T ≠ i2 ∧ T ≠ i3 ∧ T ≠ L)
  ti : IsTupOf3 h TI (.ref i1) (.ref i2) (.ref i3)
  s1 : St1 i h
  s2 : St2 i h
  s3 : St3 i h
section
variable {prog : Program} {w : World} {A : Around} {E : Value → Shared → Prop} {s : Shared} {L z TI TO i1 i2 i3 : Addr} {fp1 fp2 fp3 : List Addr} {n1 n2 n3 i : Nat} {P1 P2 P3 : Nat → Value → Prop} {St1 St2 St3 : Nat → Heap → Prop}
theorem ZSt.ty {h : Heap} (x : ZSt L z TI TO i1 i2 i3 St1 St2 St3 i h) : ∃ o, h.get? z = some o ∧ o.cls = .type "zip" := by
  rcases x.st with ⟨a, _⟩ | ⟨T, f, oT, a, _⟩
  · exact ⟨_, a, rfl⟩
  · exact ⟨_, a, rfl⟩
theorem ZSt.at {h h' : Heap} (x : ZSt L z TI TO i1 i2 i3 St1 St2 St3 i h) (D1 : Draws prog w A i1 fp1 n1 P1 St1) (D2 : Draws prog w A i2 fp2 n2 P2 St2) (D3 : Draws prog w A i3 fp3 n3 P3 St3)
    (k : ∀ b o, b ≠ L → h.get? b = some o → h'.get? b = some o) (hz : z ≠ L) (hTI : TI ≠ L) (hTO : TO ≠ L) (h1 : L ∉ fp1) (h2 : L ∉ fp2) (h3 : L ∉ fp3) : ZSt L z TI TO i1 i2 i3 St1 St2 St3 i h' where
  st := by
    rcases x.st with ⟨a, b, c, d, e⟩ | ⟨T, f, oT, a, b, c1, c2, c3, c4, c5, c6⟩
    · exact .inl ⟨k _ _ hz a, b, c, d, k _ _ hTO e⟩
    · exact .inr ⟨T, f, oT, k _ _ hz a, k _ _ c6 b, c1, c2, c3, c4, c5, c6⟩
  ti := k _ _ hTI x.ti
  s1 := D1.frame _ _ _ x.s1 fun b hb o e => k b o (fun q => h1 (q ▸ hb)) e
  s2 := D2.frame _ _ _ x.s2 fun b hb o e => k b o (fun q => h2 (q ▸ hb)) e
  s3 := D3.frame _ _ _ x.s3 fun b hb o e => k b o (fun q => h3 (q ▸ hb)) e
theorem znext {oL : Obj} {Q : Option Value → Shared → Prop} (S : ZipSep3 z TI TO i1 i2 i3 fp1 fp2 fp3) (D1 : Draws prog w A.in1 i1 fp1 n1 P1 St1) (D2 : Draws prog w A.in1 i2 fp2 n2 P2 St2) (D3 : Draws prog w A.in1 i3 fp3 n3 P3 St3)
    (x : ZSt L z TI TO i1 i2 i3 St1 St2 St3 i s.heap) (hL : s.heap.get? L = some oL) (hlt1 : i < n1) (hlt2 : i < n2) (hlt3 : i < n3)
    (hQ : ∀ x1 x2 x3 h' tk, P1 i x1 → P2 i x2 → P3 i x3 → ZSt L z TI TO i1 i2 i3 St1 St2 St3 (i + 1) h' → IsTupOf3 h' s.heap.objs.size x1 x2 x3 → h'.objs.size = s.heap.objs.size + 1 →
      (∀ c o, c ≠ z → c ≠ TO → c ≠ i1 → c ≠ i2 → c ≠ i3 → s.heap.get? c = some o → h'.get? c = some o) → Q (some (.ref s.heap.objs.size)) { s with heap := h', toks := tk }) :
    wpAny (model prog w) A (pyNext (.ref z)) Q E s := by
  have lt : ∀ {c o}, s.heap.get? c = some o → s.heap.objs.size ≠ c := fun e => Nat.ne_of_gt (Heap.lt_size e)
  have l1 : s.heap.objs.size ≠ i1 := by obtain ⟨_, e⟩ := D1.live _ _ x.s1; exact lt e
  have l2 : s.heap.objs.size ≠ i2 := by obtain ⟨_, e⟩ := D2.live _ _ x.s2; exact lt e
  have l3 : s.heap.objs.size ≠ i3 := by obtain ⟨_, e⟩ := D3.live _ _ x.s3; exact lt e
  rcases x.st with ⟨hz, a, b, c, hTO⟩ | ⟨T, f, oT, hz, hT, c1, c2, c3, c4, c5, c6⟩
  · refine wpAny_pyNext_zipD3_item S D1 D2 D3 hz x.ti hTO x.s1 x.s2 x.s3 hlt1 hlt2 hlt3 fun x1 x2 x3 h' tk y1 y2 y3 b1 b2 d1 d2 d3 b5 b6 hk => ?_
    exact hQ x1 x2 x3 h' tk y1 y2 y3 ⟨.inr ⟨_, false, _, b1, b5, lt hz, lt hTO, l1, l2, l3, lt hL⟩, hk _ _ S.TIz S.TITO S.TIi1 S.TIi2 S.TIi3 x.ti, d1, d2, d3⟩ b5 b6 hk
  · refine pyNext_held_item S D1 D2 D3 hz hT x.ti x.s1 x.s2 x.s3 hlt1 hlt2 hlt3 fun x1 x2 x3 h' tk y1 y2 y3 b1 d1 d2 d3 b5 b6 hk => ?_
    exact hQ x1 x2 x3 h' tk y1 y2 y3 ⟨.inr ⟨T, true, oT, b1, hk _ _ c1 c3 c4 c5 hT, c1, c2, c3, c4, c5, c6⟩, hk _ _ S.TIz S.TIi1 S.TIi2 S.TIi3 x.ti, d1, d2, d3⟩ b5 b6 fun c o e1 _ e3 e4 e5 e => hk c o e1 e3 e4 e5 e
theorem znext_end {Q : Option Value → Shared → Prop} (S : ZipSep3 z TI TO i1 i2 i3 fp1 fp2 fp3) (D1 : Draws prog w A.in1 i1 fp1 n1 P1 St1) (D2 : Draws prog w A.in1 i2 fp2 n2 P2 St2) (D3 : Draws prog w A.in1 i3 fp3 n3 P3 St3)
    (x : ZSt L z TI TO i1 i2 i3 St1 St2 St3 i s.heap) (hle1 : i ≤ n1) (hle2 : i ≤ n2) (hle3 : i ≤ n3) (hend : i = n1 ∨ i = n2 ∨ i = n3)
    (hQ : ∀ h' tk, (∀ c o, c ≠ z → c ≠ TO → c ≠ i1 → c ≠ i2 → c ≠ i3 → s.heap.get? c = some o → h'.get? c = some o) → Q none { s with heap := h', toks := tk }) :
    wpAny (model prog w) A (pyNext (.ref z)) Q E s := by
  rcases x.st with ⟨hz, a, b, c, hTO⟩ | ⟨T, f, oT, hz, hT, c1, c2, c3, c4, c5, c6⟩
  · exact wpAny_pyNext_zipD3_end S D1 D2 D3 hz x.ti hTO x.s1 x.s2 x.s3 hle1 hle2 hle3 hend hQ
  · exact pyNext_held_end S D1 D2 D3 hz hT x.ti x.s1 x.s2 x.s3 hle1 hle2 hle3 hend fun h' tk hk => hQ h' tk fun c o e1 _ e3 e4 e5 e => hk c o e1 e3 e4 e5 e
/-- what lies in the list so far -/
def Got (B : Addr) (P1 P2 P3 : Nat → Value → Prop) (h : Heap) (ts : List Addr) : Prop :=
  ts.Nodup ∧ ∀ j t, ts[j]? = some t → B ≤ t ∧ ∃ x1 x2 x3, IsTupOf3 h t x1 x2 x3 ∧ P1 j x1 ∧ P2 j x2 ∧ P3 j x3
theorem Got.at {B : Addr} {h h' : Heap} {ts : List Addr} (g : Got B P1 P2 P3 h ts) (k : ∀ b o, B ≤ b → h.get? b = some o → h'.get? b = some o) : Got B P1 P2 P3 h' ts :=
  ⟨g.1, fun j t e => by
    obtain ⟨l, x1, x2, x3, a, r⟩ := g.2 j t e
    exact ⟨l, x1, x2, x3, k _ _ l a, r⟩⟩
theorem Got.push {B N : Addr} {h : Heap} {ts : List Addr} (g : Got B P1 P2 P3 h ts) {x1 x2 x3 : Value} (hB : B ≤ N) (hn : N ∉ ts) (a : IsTupOf3 h N x1 x2 x3) (y1 : P1 ts.length x1) (y2 : P2 ts.length x2) (y3 : P3 ts.length x3) : Got B P1 P2 P3 h (ts ++ [N]) := by
  refine ⟨List.nodup_append.mpr ⟨g.1, by simp, fun c hc d hd e => ?_⟩, fun j t e => ?_⟩
  · simp only [List.mem_cons, List.not_mem_nil, or_false] at hd
    subst e hd
    exact hn hc
  · rw [List.getElem?_append] at e
    split at e
    · exact g.2 j t e
    · rename_i hj
      have hj' : j - ts.length = 0 := by
        by_cases h0 : j - ts.length = 0
        · exact h0
        · rw [List.getElem?_eq_none (by simp; omega)] at e; cases e
      rw [hj'] at e
      cases e
      have : j = ts.length := by omega
      subst this
      exact ⟨hB, x1, x2, x3, a, y1, y2, y3⟩
/-- the list takes all -/
theorem ext_zip3 {R : Result → Shared → Prop} {n : Nat} {B : Addr} (S : ZipSep3 z TI TO i1 i2 i3 fp1 fp2 fp3) (D1 : Draws prog w A.in1.in1 i1 fp1 n1 P1 St1) (D2 : Draws prog w A.in1.in1 i2 fp2 n2 P2 St2) (D3 : Draws prog w A.in1.in1 i3 fp3 n3 P3 St3)
    (hn : n ≤ sizeLine) (hle1 : n ≤ n1) (hle2 : n ≤ n2) (hle3 : n ≤ n3) (hend : n = n1 ∨ n = n2 ∨ n = n3) (res : Value)
    (bz : z < B) (bTI : TI < B) (bTO : TO < B) (b1 : i1 < B) (b2 : i2 < B) (b3 : i3 < B) (bL : L < B) (hz : z ≠ L) (hTI : TI ≠ L) (hTO : TO ≠ L) (h1 : L ∉ fp1) (h2 : L ∉ fp2) (h3 : L ∉ fp3) :
    ∀ (k i : Nat) (s : Shared) (ts : List Addr) (c : Nat), n - i = k → i ≤ n → ZSt L z TI TO i1 i2 i3 St1 St2 St3 i s.heap → s.heap.get? L = some { cls := .type "list", dict := none, data := .seq (ts.map Value.ref).toArray c, slots := #[] } → ts.length = i → B ≤ s.heap.objs.size → Got B P1 P2 P3 s.heap ts →
    (∀ h' tk ts' c', (∀ b o, b ≠ L → b ≠ z → b ≠ TO → b ≠ i1 → b ≠ i2 → b ≠ i3 → s.heap.get? b = some o → h'.get? b = some o) → h'.get? L = some { cls := .type "list", dict := none, data := .seq (ts'.map Value.ref).toArray c', slots := #[] } → ts'.length = n → Got B P1 P2 P3 h' ts' → R (.ok (.ret res)) { s with heap := h', toks := tk }) →
    codeAny (model prog w) A (.builtin "list.extend.loop" ⟨[.ref L, .ref z, res], []⟩) R s := by
  have mem1 : i1 ≠ L := fun e => h1 (e ▸ S.mem1)
  have mem2 : i2 ≠ L := fun e => h2 (e ▸ S.mem2)
  have mem3 : i3 ≠ L := fun e => h3 (e ▸ S.mem3)
  intro k
  induction k with
  | zero =>
    intro i s ts c hk hi hst hL hlen hB hG hR
    have hin : i = n := by omega
    subst hin
    refine codeAny_builtin F.entry_extend_loop ?_
    rw [Around.under_plainId F.plain_extend_loop _]
    show wpAny _ A.in1 (pyNext (.ref z) >>= _) _ _ s
    refine wpAny_bind (znext_end S D1 D2 D3 hst hle1 hle2 hle3 hend fun h' tk hk' => ?_)
    refine wpAny_pure (hR h' tk ts c (fun b o _ e1 e2 e3 e4 e5 e => hk' b o e1 e2 e3 e4 e5 e) (hk' _ _ hz.symm hTO.symm mem1.symm mem2.symm mem3.symm hL) hlen (hG.at fun b o hb e => hk' b o ?_ ?_ ?_ ?_ ?_ e)) <;> exact Nat.ne_of_gt (Nat.lt_of_lt_of_le (by assumption) hb)
  | succ k ih =>
    intro i s ts c hk hi hst hL hlen hB hG hR
    have hlt : i < n := by omega
    refine codeAny_builtin F.entry_extend_loop ?_
    rw [Around.under_plainId F.plain_extend_loop _]
    show wpAny _ A.in1 (pyNext (.ref z) >>= _) _ _ s
    refine wpAny_bind (znext S D1 D2 D3 hst hL (by omega) (by omega) (by omega) fun x1 x2 x3 h' tk y1 y2 y3 hst' hT hsz hk' => ?_)
    have hL' := hk' _ _ hz.symm hTO.symm mem1.symm mem2.symm mem3.symm hL
    have hnt : s.heap.objs.size ∉ ts := fun hm => by
      obtain ⟨j, hj⟩ := List.getElem?_of_mem hm
      obtain ⟨_, _, _, _, a, _⟩ := hG.2 j _ hj
      exact absurd (Heap.lt_size a) (Nat.lt_irrefl _)
    have hG' : Got B P1 P2 P3 h' ts := hG.at fun b o hb e => by
      refine hk' b o ?_ ?_ ?_ ?_ ?_ e <;> exact Nat.ne_of_gt (Nat.lt_of_lt_of_le (by assumption) hb)
    have hG2 := hG'.push hB hnt hT (by rw [hlen]; exact y1) (by rw [hlen]; exact y2) (by rw [hlen]; exact y3)
    show wpAny _ A.in1 (updateSeq L (·.push (.ref s.heap.objs.size)) >>= _) _ _ _
    refine wpAny_bind ?_
    have oth : ∀ b o, b ≠ L → h'.get? b = some o → (h'.update L (Obj.mapSeq (·.push (Value.ref s.heap.objs.size)))).get? b = some o := fun b o hb e => (Heap.get?_update_other _ _ (Ne.symm hb)).trans e
    have ea : (ts.map Value.ref).toArray.push (Value.ref s.heap.objs.size) = ((ts ++ [s.heap.objs.size]).map Value.ref).toArray := by rw [List.map_append]; simp
    obtain ⟨c2, hnew⟩ : ∃ c2, (h'.update L (Obj.mapSeq (·.push (Value.ref s.heap.objs.size)))).get? L = some { cls := .type "list", dict := none, data := .seq ((ts ++ [s.heap.objs.size]).map Value.ref).toArray c2, slots := #[] } := by
      rw [← ea]
      exact ⟨_, Heap.get?_update_self (Obj.mapSeq (·.push (Value.ref s.heap.objs.size))) hL' rfl⟩
    refine wpAny_updateSeq (s := { s with heap := h', toks := tk }) hL' rfl (wpAny_pure ⟨plainId_quiet F.plain_extend_loop _, ih (i + 1) _ (ts ++ [s.heap.objs.size]) _ (by omega) hlt (hst'.at D1 D2 D3 oth hz hTI hTO h1 h2 h3) hnew (by rw [List.length_append, hlen]; rfl) ?_ (hG2.at fun b o hb e => oth b o (Nat.ne_of_gt (Nat.lt_of_lt_of_le bL hb)) e) fun h'' tk' ts' c' hk2 hL2 hl2 hg2 => ?_⟩) (by rw [List.size_toArray, List.length_map]; omega) (by
        show (((ts.map Value.ref).toArray).push _).size ≤ sizeLine + 1
        rw [Array.size_push, List.size_toArray, List.length_map]; omega)
    · show B ≤ (h'.update L _).objs.size
      rw [Heap.size_update, hsz]
      exact Nat.le_succ_of_le hB
    · refine hR h'' tk' ts' c' (fun b o e0 e1 e2 e3 e4 e5 e => hk2 b o e0 e1 e2 e3 e4 e5 (oth b o e0 (hk' b o e1 e2 e3 e4 e5 e))) hL2 hl2 hg2
end
end Z3
namespace Z3
open PySem PyProof.Rows
open PySem.Sem (wp)
section
variable {prog : Program} {w : World} {A : Around} {E : Value → Shared → Prop} {s : Shared} {z TI TO i1 i2 i3 : Addr} {fp1 fp2 fp3 : List Addr} {n1 n2 n3 : Nat} {P1 P2 P3 : Nat → Value → Prop} {St1 St2 St3 : Nat → Heap → Prop}
/-- list(z), z a zip of three -/
theorem list_zip3 {Q : Value → Shared → Prop} {n : Nat} (S : ZipSep3 z TI TO i1 i2 i3 fp1 fp2 fp3) (D1 : Draws prog w A.in1.in1.in1 i1 fp1 n1 P1 St1) (D2 : Draws prog w A.in1.in1.in1 i2 fp2 n2 P2 St2) (D3 : Draws prog w A.in1.in1.in1 i3 fp3 n3 P3 St3)
    (hn : n ≤ sizeLine) (hle1 : n ≤ n1) (hle2 : n ≤ n2) (hle3 : n ≤ n3) (hend : n = n1 ∨ n = n2 ∨ n = n3) (hz : IsZip s.heap z TI TO .none) (hTO : ∃ a b c, IsTupOf3 s.heap TO a b c) (hTI : IsTupOf3 s.heap TI (.ref i1) (.ref i2) (.ref i3)) (st1 : St1 0 s.heap) (st2 : St2 0 s.heap) (st3 : St3 0 s.heap)
    (f1 : ∀ b ∈ fp1, b < s.heap.objs.size) (f2 : ∀ b ∈ fp2, b < s.heap.objs.size) (f3 : ∀ b ∈ fp3, b < s.heap.objs.size)
    (hQ : ∀ h' tk ts c, (∀ b o, b ≠ z → b ≠ TO → b ≠ i1 → b ≠ i2 → b ≠ i3 → s.heap.get? b = some o → h'.get? b = some o) → h'.get? s.heap.objs.size = some { cls := .type "list", dict := none, data := .seq (ts.map Value.ref).toArray c, slots := #[] } → ts.length = n → Got (s.heap.objs.size + 1) P1 P2 P3 h' ts → Q (.ref s.heap.objs.size) { s with heap := h', toks := tk }) :
    wpAny (model prog w) A (call (.type "list") [.ref z]) Q E s := by
  have bz : z < s.heap.objs.size := Heap.lt_size hz
  have bTI : TI < s.heap.objs.size := Heap.lt_size hTI
  have bTO : TO < s.heap.objs.size := by obtain ⟨_, _, _, e⟩ := hTO; exact Heap.lt_size e
  have b1 := f1 _ S.mem1
  have b2 := f2 _ S.mem2
  have b3 := f3 _ S.mem3
  refine callType_codes (Q₁ := fun obj s₁ => obj = .ref s.heap.objs.size ∧ s₁ = { s with heap := s.heap.push { cls := .type "list", data := .seq #[] } }) PySem.F.called_list (PySem.F.typeCall_list_1 _) PySem.F.entry_list_init
    (code_list_new _ ⟨rfl, rfl⟩) fun obj s₁ h₁ => ?_
  obtain ⟨rfl, rfl⟩ := h₁
  have up : ∀ b o, s.heap.get? b = some o → (s.heap.push { cls := .type "list", data := .seq #[] }).get? b = some o := fun b o e => Heap.get?_push_of_some _ e
  have hS : (s.heap.push { cls := .type "list", data := .seq #[] }).get? s.heap.objs.size = some { cls := .type "list", data := .seq #[] } := Heap.get?_push_size _ rfl
  have hT : ∀ h : Heap, IsZip h z TI TO .none → ∀ g d tk os, (⟨h, g, d, tk, os⟩ : Shared).TypeIs (.ref z) "zip" := fun h e _ _ _ _ => ⟨_, e, rfl⟩
  refine ⟨⟨_, hS, rfl⟩, PySem.F.args_list_init_2 _ _, ?_⟩
  generalize hp0 : s.heap.push { cls := .type "list", data := .seq #[] } = p0 at up hS ⊢
  have sz0 : p0.objs.size = s.heap.objs.size + 1 := by rw [← hp0, Heap.size_push]
  show wpAny _ A.in1.in1 (do let old ← Builtin.List.listItems (.ref s.heap.objs.size); Builtin.List.listUpdate (.ref s.heap.objs.size) (fun _ => #[]); letGo old.toList.reverse; Builtin.List.listExtendWith (.ref s.heap.objs.size) (.ref z) .none) _ _ _
  refine wpAny_bind ?_
  unfold Builtin.List.listItems
  refine wpAny_bind (wpAny_seqItems (s := { s with heap := p0 }) hS rfl (wpAny_pure ?_))
  show wpAny _ A.in1.in1 (updateSeq s.heap.objs.size (fun _ => #[]) >>= fun _ => letGo (#[] : Array Value).toList.reverse >>= fun _ => Builtin.List.listExtendWith (.ref s.heap.objs.size) (.ref z) .none) _ _ _
  refine wpAny_bind (wpAny_updateSeq (s := { s with heap := p0 }) hS rfl ?_)
  have hS₂ := Heap.get?_update_self (Obj.mapSeq (fun _ => (#[] : Array Value))) hS rfl
  have oth : ∀ b o, b ≠ s.heap.objs.size → p0.get? b = some o → (p0.update s.heap.objs.size (Obj.mapSeq (fun _ => (#[] : Array Value)))).get? b = some o :=
    fun b o hb e => (Heap.get?_update_other _ _ (Ne.symm hb)).trans e
  have sz1 : (p0.update s.heap.objs.size (Obj.mapSeq (fun _ => (#[] : Array Value)))).objs.size = s.heap.objs.size + 1 := by rw [Heap.size_update, sz0]
  generalize p0.update s.heap.objs.size (Obj.mapSeq (fun _ => (#[] : Array Value))) = p1 at hS₂ oth sz1
  refine wpAny_bind (wpAny_letGo ?_)
  have zL : z ≠ s.heap.objs.size := Nat.ne_of_lt bz
  unfold Builtin.List.listExtendWith
  have k1 : ∀ b o, b ≠ s.heap.objs.size → s.heap.get? b = some o → p1.get? b = some o := fun b o hb e => oth b o hb (up b o e)
  refine wpAny_bind (wpAny_typeOf (T := "zip") (s := { s with heap := p1 }) ⟨_, k1 _ _ zL hz, rfl⟩ ?_)
  have g1 : Builtin.List.listSameRef (.ref s.heap.objs.size) (.ref z) = false := by simp [Builtin.List.listSameRef]; exact Ne.symm zL
  have g2 : (Value.type "zip" == Value.type "list") = false := by decide
  have g3 : (Value.type "zip" == Value.type "tuple") = false := by decide
  simp only [g1, g2, g3, Bool.or_false, Bool.false_eq_true, if_false]
  refine wpAny_bind (wpAny_pyIter_zip (s := { s with heap := p1 }) (k1 _ _ zL hz) ?_)
  refine wpAny_bind (wpAny_holding ?_)
  unfold Builtin.List.listLengthHint
  refine wpAny_bind (wpAny_specialOf (T := "zip") (s := { s with heap := p1 }) ⟨_, k1 _ _ zL hz, rfl⟩ zip_no_len ?_)
  show wpAny _ A.in1.in1 (specialOf (Value.ref z) (Str.ofString "__length_hint__") >>= _) _ _ _
  refine wpAny_bind (wpAny_specialOf (T := "zip") (s := { s with heap := p1 }) ⟨_, k1 _ _ zL hz, rfl⟩ zip_no_hint ?_)
  refine wpAny_pure ?_
  show wpAny _ A.in1.in1 (rule "list.extend.makes-room" >>= fun _ => Builtin.List.listTouch (.ref s.heap.objs.size) >>= fun _ =>
    again (.builtin "list.extend.loop" ⟨[.ref s.heap.objs.size, .ref z, .none], []⟩)) _ _ _
  refine wpAny_bind (wpAny_rule ?_)
  refine wpAny_bind ?_
  show wpAny _ A.in1.in1 (updateSeq s.heap.objs.size (·.push .none) >>= fun _ => updateSeq s.heap.objs.size (·.pop)) _ _ _
  refine wpAny_bind (wpAny_updateSeq (s := { s with heap := p1 }) hS₂ rfl ?_)
  have hS₃ := Heap.get?_update_self (Obj.mapSeq (·.push Value.none)) hS₂ rfl
  refine wpAny_updateSeq (hz := by seq_fits) hS₃ rfl ?_
  have hS₄ := Heap.get?_update_self (Obj.mapSeq (·.pop)) hS₃ rfl
  have oth2 : ∀ b o, b ≠ s.heap.objs.size → p1.get? b = some o → ((p1.update s.heap.objs.size (Obj.mapSeq (·.push Value.none))).update s.heap.objs.size (Obj.mapSeq (·.pop))).get? b = some o :=
    fun b o hb e => (Heap.get?_update_other _ _ (Ne.symm hb)).trans ((Heap.get?_update_other _ _ (Ne.symm hb)).trans e)
  have sz2 : ((p1.update s.heap.objs.size (Obj.mapSeq (·.push Value.none))).update s.heap.objs.size (Obj.mapSeq (·.pop))).objs.size = s.heap.objs.size + 1 := by rw [Heap.size_update, Heap.size_update, sz1]
  have k2 : ∀ b o, b ≠ s.heap.objs.size → s.heap.get? b = some o → ((p1.update s.heap.objs.size (Obj.mapSeq (·.push Value.none))).update s.heap.objs.size (Obj.mapSeq (·.pop))).get? b = some o := fun b o hb e => oth2 b o hb (k1 b o hb e)
  have nf : ∀ {fp : List Addr}, (∀ b ∈ fp, b < s.heap.objs.size) → s.heap.objs.size ∉ fp := fun h m => Nat.lt_irrefl _ (h _ m)
  have kn : ∀ {a : Addr}, a < s.heap.objs.size → a ≠ s.heap.objs.size := fun h => Nat.ne_of_lt h
  refine wpAny_pure ⟨plainId_quiet F.plain_extend_loop _, ext_zip3 (B := s.heap.objs.size + 1) (n := n) S D1 D2 D3 hn hle1 hle2 hle3 hend .none (Nat.lt_succ_of_lt bz) (Nat.lt_succ_of_lt bTI) (Nat.lt_succ_of_lt bTO) (Nat.lt_succ_of_lt b1) (Nat.lt_succ_of_lt b2) (Nat.lt_succ_of_lt b3) (Nat.lt_succ_self _) (kn bz) (kn bTI) (kn bTO) (nf f1) (nf f2) (nf f3) n 0 _ [] _ (by omega) (Nat.zero_le _) ⟨.inl ⟨k2 _ _ (kn bz) hz, ?_⟩, k2 _ _ (kn bTI) hTI, D1.frame _ _ _ st1 fun b hb o e => k2 b o (kn (f1 b hb)) e, D2.frame _ _ _ st2 fun b hb o e => k2 b o (kn (f2 b hb)) e, D3.frame _ _ _ st3 fun b hb o e => k2 b o (kn (f3 b hb)) e⟩ hS₄ rfl (Nat.le_of_eq sz2.symm) ⟨List.nodup_nil, fun j t e => by simp at e⟩ fun h' tk ts' c' hk hL hl hg => ?_⟩
  · obtain ⟨a, b, c, e⟩ := hTO
    exact ⟨a, b, c, k2 _ _ (kn bTO) e⟩
  · refine ⟨rfl, hQ h' tk ts' c' (fun b o e1 e2 e3 e4 e5 e => hk b o (Nat.ne_of_lt (Heap.lt_size e)) e1 e2 e3 e4 e5 (k2 b o (Nat.ne_of_lt (Heap.lt_size e)) e)) hL hl hg⟩
end
end Z3

namespace Z3
open PySem PySem.Spec PyProof.Rows L2
/-- three tuples side by side, at each turn -/
def Itz3 (K : PySem.W.Frag) (a b c : Addr) : It :=
  ⟨fun i H => ∃ (xs ys zs : List V) (x y z : V), SqT K H a xs ∧ SqT K H b ys ∧ SqT K H c zs ∧ xs[i]? = some x ∧ ys[i]? = some y ∧ zs[i]? = some z,
    fun i H v H' => ∃ T x y z, v = .ref T ∧ H T = none ∧ H' = upd H T (.tup [x, y, z]) ∧ (∀ xs, SqT K H a xs → xs[i]? = some x) ∧ (∀ ys, SqT K H b ys → ys[i]? = some y) ∧ ∀ zs, SqT K H c zs → zs[i]? = some z,
    fun i H => ∃ xs ys zs : List V, SqT K H a xs ∧ SqT K H b ys ∧ SqT K H c zs ∧ (xs.length = i ∨ ys.length = i ∨ zs.length = i) ∧ i ≤ xs.length ∧ i ≤ ys.length ∧ i ≤ zs.length⟩
theorem turn_zip3 {P : Program} {w : World} {K : PySem.W.Frag} {elts : List Expr} {kk : Nat} {tpos : Pos} {a b c z TI TO i1 i2 i3 : Addr} (D : ZipSep3 z TI TO i1 i2 i3 [i1, a] [i2, b] [i3, c]) (n1 : a ≠ i1) (n2 : b ≠ i2) (n3 : c ≠ i3) :
    Turn P w K (.Tuple elts kk tpos) (Itz3 K a b c) [z, TI, TO, i1, i2, i3] z (fun i h => IsZip h z TI TO .none ∧ IsTupOf3 h TI (.ref i1) (.ref i2) (.ref i3) ∧ (∃ x y t, IsTupOf3 h TO x y t) ∧ h.IsTupleIter i1 a i ∧ h.IsTupleIter i2 b i ∧ h.IsTupleIter i3 c i) where
  mem := by simp
  obj := fun i h st q hq => by
    obtain ⟨hz, hTI, ⟨x, y, t, hTO⟩, ⟨o1, e1, _, d1⟩, ⟨o2, e2, _, d2⟩, ⟨o3, e3, _, d3⟩⟩ := st
    have e' : q = z ∨ q = TI ∨ q = TO ∨ q = i1 ∨ q = i2 ∨ q = i3 := by simpa using hq
    rcases e' with r | r | r | r | r | r
    · rw [r]; exact ⟨_, hz, fun v q => nomatch q⟩
    · rw [r]; exact ⟨_, hTI, fun v q => nomatch q⟩
    · rw [r]; exact ⟨_, hTO, fun v q => nomatch q⟩
    · rw [r]; exact ⟨o1, e1, fun v q => by rw [d1] at q; cases q⟩
    · rw [r]; exact ⟨o2, e2, fun v q => by rw [d2] at q; cases q⟩
    · rw [r]; exact ⟨o3, e3, fun v q => by rw [d3] at q; cases q⟩
  keep := fun i h h' st k => by
    obtain ⟨hz, hTI, ⟨x, y, t, hTO⟩, h1, h2, h3⟩ := st
    exact ⟨k z (by simp) _ hz, k TI (by simp) _ hTI, ⟨x, y, t, k TO (by simp) _ hTO⟩, h1.at fun o q => k i1 (by simp) o q, h2.at fun o q => k i2 (by simp) o q, h3.at fun o q => k i3 (by simp) o q⟩
  item := by
    intro X hP hw hK hc i pins s σ H E I hf st hg
    subst hP hw hK
    obtain ⟨hz, hTI, ⟨x0, y0, t0, hTO⟩, h1, h2, h3⟩ := st
    obtain ⟨xs, ys, zs, x, y, t, hqx, hqy, hqz, hx, hy, ht⟩ := hg
    obtain ⟨its, rv, p, _⟩ := I.tuple hqx
    obtain ⟨its2, rv2, p2, _⟩ := I.tuple hqy
    obtain ⟨its3, rv3, p3, _⟩ := I.tuple hqz
    obtain ⟨u, hu, ru⟩ := rv.get hx
    obtain ⟨u2, hu2, ru2⟩ := rv2.get hy
    obtain ⟨u3, hu3, ru3⟩ := rv3.get ht
    have hzl : z < s.heap.objs.size := Heap.lt_size hz
    have len : ∀ {l : List Value} {v : Value}, l[i]? = some v → i < l.toArray.size := fun e => by rw [List.size_toArray]; exact (List.getElem?_eq_some_iff.mp e).1
    refine wpAny_pyNext_zipD3_item D (Draws.tuple (A := X.A.in1) (I.ok.hd hc) i1 a n1 its.toArray) (Draws.tuple (A := X.A.in1) (I.ok.hd hc) i2 b n2 its2.toArray) (Draws.tuple (A := X.A.in1) (I.ok.hd hc) i3 c n3 its3.toArray) hz hTI hTO ⟨h1, p⟩ ⟨h2, p2⟩ ⟨h3, p3⟩ (len hu) (len hu2) (len hu3) fun v1 v2 v3 h' tk y1 y2 y3 b1 b2 d1 d2 d3 b5 b6 hk => ?_
    have ev : v1 = u := by
      have : its[i]? = some v1 := by simpa using y1
      rw [hu] at this; cases this; rfl
    have ev2 : v2 = u2 := by
      have : its2[i]? = some v2 := by simpa using y2
      rw [hu2] at this; cases this; rfl
    have ev3 : v3 = u3 := by
      have : its3[i]? = some v3 := by simpa using y3
      rw [hu3] at this; cases this; rfl
    subst ev ev2 ev3
    refine ⟨_, rfl, wpAny_letOwnedTupleGo_zip (s := { s with heap := h', toks := tk }) b1 fun h'' z'' sb => ?_⟩
    have hT2 : h''.get? s.heap.objs.size = some { cls := .type "tuple", data := .seq #[v1, v2, v3] } := (sb.2 _ (Nat.ne_of_gt hzl)).trans b5
    have new : ObjOk X.prog X.w (upd H s.heap.objs.size (.tup [x, y, t])) h'' s.heap.objs.size (.tup [x, y, t]) :=
      ⟨by show 3 ≤ sizeLine; decide, [v1, v2, v3], .cons ru (.cons ru2 (.cons ru3 .nil)), ⟨_, hT2, rfl, _, rfl⟩⟩
    have I1 : Inv X pins σ (upd H s.heap.objs.size (.tup [x, y, t])) { s with heap := h'', toks := tk } :=
      I.turnedNew (t' := tk) (ch := [z, TI, TO, i1, i2, i3]) (fun q o hb e => (sb.2 q (fun q' => hb (by simp [q']))).trans (hk q o (fun q' => hb (by simp [q'])) (fun q' => hb (by simp [q'])) (fun q' => hb (by simp [q'])) (fun q' => hb (by simp [q'])) (fun q' => hb (by simp [q'])) e)) hf (Nat.le_refl _) new
    refine ⟨.ref s.heap.objs.size, _, I1, rfl, ⟨_, x, y, t, rfl, I.hok.fresh (Nat.le_refl _), rfl, fun l hl => by rw [I.tuple_inj hl hqx]; exact hx, fun l hl => by rw [I.tuple_inj hl hqy]; exact hy, fun l hl => by rw [I.tuple_inj hl hqz]; exact ht⟩, ⟨z'', ?_, ⟨v1, v2, v3, ?_⟩, ?_, ?_, ?_⟩, fun q hcm => ?_⟩
    · exact (sb.2 _ D.TIz).trans (hk _ _ D.TIz D.TITO D.TIi1 D.TIi2 D.TIi3 hTI)
    · exact (sb.2 _ D.TOz).trans b2
    · exact d1.1.at fun o q => (sb.2 _ (Ne.symm D.zi1)).trans q
    · exact d2.1.at fun o q => (sb.2 _ (Ne.symm D.zi2)).trans q
    · exact d3.1.at fun o q => (sb.2 _ (Ne.symm D.zi3)).trans q
    · have hlt : q < s.heap.objs.size := by
        have e' : q = z ∨ q = TI ∨ q = TO ∨ q = i1 ∨ q = i2 ∨ q = i3 := by simpa using hcm
        rcases e' with q | q | q | q | q | q
        · rw [q]; exact hzl
        · rw [q]; exact Heap.lt_size hTI
        · rw [q]; exact Heap.lt_size hTO
        · rw [q]; obtain ⟨_, e1, _⟩ := h1; exact Heap.lt_size e1
        · rw [q]; obtain ⟨_, e2, _⟩ := h2; exact Heap.lt_size e2
        · rw [q]; obtain ⟨_, e3, _⟩ := h3; exact Heap.lt_size e3
      rw [upd_ne (Nat.ne_of_lt hlt)]
      exact (hf q hcm).1
  done := by
    intro X hP hw hK hc i pins s σ H E I hf st hg
    subst hP hw hK
    obtain ⟨hz, hTI, ⟨x0, y0, t0, hTO⟩, h1, h2, h3⟩ := st
    obtain ⟨xs, ys, zs, hqx, hqy, hqz, hend, le1, le2, le3⟩ := hg
    obtain ⟨its, rv, p, _⟩ := I.tuple hqx
    obtain ⟨its2, rv2, p2, _⟩ := I.tuple hqy
    obtain ⟨its3, rv3, p3, _⟩ := I.tuple hqz
    have l1 := rv.length
    have l2 := rv2.length
    have l3 := rv3.length
    have s1 : its.toArray.size = its.length := List.size_toArray
    have s2 : its2.toArray.size = its2.length := List.size_toArray
    have s3 : its3.toArray.size = its3.length := List.size_toArray
    exact wpAny_pyNext_zipD3_end D (Draws.tuple (A := X.A.in1) (I.ok.hd hc) i1 a n1 its.toArray) (Draws.tuple (A := X.A.in1) (I.ok.hd hc) i2 b n2 its2.toArray) (Draws.tuple (A := X.A.in1) (I.ok.hd hc) i3 c n3 its3.toArray) hz hTI hTO ⟨h1, p⟩ ⟨h2, p2⟩ ⟨h3, p3⟩ (by omega) (by omega) (by omega) (by omega) fun h' tk hk => ⟨rfl, I.turnedL (t' := tk) (ch := [z, TI, TO, i1, i2, i3]) (fun q o hb e =>
      hk q o (fun q' => hb (by simp [q'])) (fun q' => hb (by simp [q'])) (fun q' => hb (by simp [q'])) (fun q' => hb (by simp [q'])) (fun q' => hb (by simp [q'])) e) hf⟩
  self := fun A i s Q E st h => wpAny_pyIter_zip st.1 h
def iZip3 (K : PySem.W.Frag) (ta : TA) : TI := fun σ H R => ta σ H fun vs H1 => ∃ a b c xs ys zs, vs = [.ref a, .ref b, .ref c] ∧ SqT K H1 a xs ∧ SqT K H1 b ys ∧ SqT K H1 c zs ∧ R (Itz3 K a b c) H1
theorem sep_of {N : Nat} {a b c : Addr} (h1 : a < N) (h2 : b < N) (h3 : c < N) : ZipSep3 (N + 5) (N + 3) (N + 4) N (N + 1) (N + 2) [N, a] [N + 1, b] [N + 2, c] :=
  zip_sep3 (fp1 := [a]) (fp2 := [b]) (fp3 := [c]) (by intro q h; simp at h; rw [h]; exact h1) (by intro q h; simp at h; rw [h]; exact h2) (by intro q h; simp at h; rw [h]; exact h3)
theorem pi_zip3 {X : Cx} {e e2 e3 : Expr} {ta : TA} {p pos tpos : Pos} {elts : List Expr} {kk : Nat} (hg : Gl X "zip") (hm : X.mg "zip" = none) (ha : PA X [e, e2, e3] ta)
    (hs : starEach [e, e2, e3] X.env = (false, eval e X.env) :: starEach [e2, e3] X.env := by rfl) (hpl : (backTo pos (starEach [e2, e3] X.env)).any (·.1) = false := by rfl) :
    PI X (.Tuple elts kk tpos) (.Call (.Name "zip" p) [e, e2, e3] [] pos) (iZip3 X.K ta) := by
  refine ⟨fun pins s σ H R I h => ?_⟩
  refine Call_ (ld_blt I hg hm PyProof.Rows.boot_zip (PyProof.Rows.callWith_type1 (thn (ha.run pos pins s σ H _ I h) fun us s1 ⟨vs, H1, I1, r1, q1⟩ => ?_) hs hpl))
  obtain ⟨a, b, c, xs, ys, zs, ex, hqx, hqy, hqz, q⟩ := q1
  subst ex
  cases r1 with
  | cons r rr =>
    cases rr with
    | cons r' rr =>
      cases rr with
      | cons r'' rr =>
        cases rr
        cases r
        cases r'
        cases r''
        have fresh : ∀ d, d ∈ [s1.heap.objs.size + 5, s1.heap.objs.size + 3, s1.heap.objs.size + 4, s1.heap.objs.size, s1.heap.objs.size + 1, s1.heap.objs.size + 2] → FpOk X pins H1 d := fun d hd => by
          have hle : s1.heap.objs.size ≤ d := by
            simp only [List.mem_cons, List.not_mem_nil, or_false] at hd
            rcases hd with z | z | z | z | z | z
            · rw [z]; exact Nat.le_add_right _ _
            · rw [z]; exact Nat.le_add_right _ _
            · rw [z]; exact Nat.le_add_right _ _
            · rw [z]; exact Nat.le_refl _
            · rw [z]; exact Nat.le_add_right _ _
            · rw [z]; exact Nat.le_add_right _ _
          exact I1.fpOk hle (I1.hok.fresh hle)
        obtain ⟨its, rv, p1, _⟩ := I1.tuple hqx
        obtain ⟨its2, rv2, p2, _⟩ := I1.tuple hqy
        obtain ⟨its3, rv3, p3, _⟩ := I1.tuple hqz
        have la : a < s1.heap.objs.size := p1.lt
        have lb : b < s1.heap.objs.size := p2.lt
        have lc : c < s1.heap.objs.size := p3.lt
        refine zip_begins3 (begins_tuple a its.toArray) (begins_tuple b its2.toArray) (begins_tuple c its3.toArray) p1 p2 p3 fun h' hz hTI hTO g1 g2 g3 hsz hk => wpAny_pyIter_zip hz ?_
        have I2 : Inv X pins σ H1 { s1 with heap := h' } := I1.kept (t' := s1.toks) hk
        exact ⟨s1.heap.objs.size + 5, [s1.heap.objs.size + 5, s1.heap.objs.size + 3, s1.heap.objs.size + 4, s1.heap.objs.size, s1.heap.objs.size + 1, s1.heap.objs.size + 2], _, _, H1, rfl, I2, turn_zip3 (sep_of la lb lc) (Nat.ne_of_lt la) (Nat.ne_of_lt (Nat.lt_succ_of_lt lb)) (Nat.ne_of_lt (Nat.lt_of_lt_of_le lc (Nat.le_add_right _ _))), ⟨hz, hTI, ⟨_, _, _, hTO⟩, ⟨_, g1, rfl, rfl⟩, ⟨_, g2, rfl, rfl⟩, ⟨_, g3, rfl, rfl⟩⟩, fresh, q⟩
end Z3
namespace Z3
open PySem PySem.Spec PyProof.Rows L2
/-! ### many new objects at once -/
def lay (l : List (Addr × HO)) (H : Hp) : Hp := l.foldl (fun H q => upd H q.1 q.2) H
theorem lay_out : ∀ {l : List (Addr × HO)} {H : Hp} {a : Addr}, a ∉ l.map (·.1) → lay l H a = H a
  | [], _, _, _ => rfl
  | q :: l, H, a, h => by
    have h1 : a ≠ q.1 := fun z => h (by simp [z])
    have h2 : a ∉ l.map (·.1) := fun z => h (by simp only [List.map_cons, List.mem_cons]; exact .inr z)
    show lay l (upd H q.1 q.2) a = _
    rw [lay_out h2, upd_ne h1]
theorem lay_in : ∀ {l : List (Addr × HO)} {H : Hp} {q : Addr × HO}, (l.map (·.1)).Nodup → q ∈ l → lay l H q.1 = some q.2
  | p :: l, H, q, nd, h => by
    rw [List.map_cons, List.nodup_cons] at nd
    show lay l (upd H p.1 p.2) q.1 = _
    rcases List.mem_cons.mp h with rfl | h
    · rw [lay_out nd.1, upd_same]
    · exact lay_in nd.2 h
theorem inv_lays {X : Cx} {pins : List (Addr × Obj)} {σ : L2.St} {H : Hp} {s : Shared} {h' : Heap} {t' : Nat} {l : List (Addr × HO)} (I : Inv X pins σ H s) (k : ∀ b u, s.heap.get? b = some u → h'.get? b = some u) (hp : ∀ q ∈ l, s.heap.objs.size ≤ q.1) (nd : (l.map (·.1)).Nodup)
    (new : ∀ q ∈ l, ∀ H' : Hp, ObjOk X.prog X.w H' h' q.1 q.2) : Inv X pins σ (lay l H) { s with heap := h', toks := t' } := by
  have old : ∀ {b : Addr}, b < s.heap.objs.size → lay l H b = H b := fun {b} hb => lay_out fun z => by
    obtain ⟨q, hq, e⟩ := List.mem_map.mp z
    exact absurd (Nat.lt_of_lt_of_le hb (e ▸ hp q hq)) (Nat.lt_irrefl _)
  have oldS : ∀ {b : Addr} {u : HO}, H b = some u → lay l H b = some u := fun {b u} e => (old (I.hok.lt e)).trans e
  refine I.un ⟨fun b u q _ _ _ => k b u q, fun b u q _ _ _ => ⟨u.slots, k b u q⟩, fun b u q n _ => (old (Heap.lt_size q)).trans n, fun b u q _ => ⟨u, k b u q⟩, fun b xs q => oldS q, fun b u xs q => oldS q, fun b ps q => ⟨#[], by rw [oldS q]; simp⟩⟩ ?_
  intro a u e
  by_cases ha : a ∈ l.map (·.1)
  · obtain ⟨q, hq, rfl⟩ := List.mem_map.mp ha
    rw [lay_in nd hq] at e
    cases e
    exact new q hq _
  · rw [lay_out ha] at e
    exact (I.hok a u e).stay (fun b v _ q => k b v q) (fun b q => oldS q) fun b xs q => oldS q
def z3 {α β : Type} (f : α → α → α → β) : List α → List α → List α → List β
  | x :: xs, y :: ys, z :: zs => f x y z :: z3 f xs ys zs
  | _, _, _ => []
theorem z3_len {α β : Type} {f : α → α → α → β} : ∀ {xs ys zs : List α}, (z3 f xs ys zs).length = min (min xs.length ys.length) zs.length
  | x :: xs, y :: ys, z :: zs => by
    simp only [z3, List.length_cons, z3_len (xs := xs)]
    omega
  | [], _, _ => by simp [z3]
  | _ :: _, [], _ => by simp [z3]
  | _ :: _, _ :: _, [] => by simp [z3]
theorem z3_at {α β : Type} {f : α → α → α → β} : ∀ {xs ys zs : List α} {j : Nat} {r : β}, (z3 f xs ys zs)[j]? = some r → ∃ x y z, xs[j]? = some x ∧ ys[j]? = some y ∧ zs[j]? = some z ∧ r = f x y z
  | x :: xs, y :: ys, z :: zs, 0, r, h => by
    simp only [z3, List.getElem?_cons_zero, Option.some.injEq] at h
    exact ⟨x, y, z, rfl, rfl, rfl, h.symm⟩
  | x :: xs, y :: ys, z :: zs, j + 1, r, h => by
    simp only [z3, List.getElem?_cons_succ] at h
    simp only [List.getElem?_cons_succ]
    exact z3_at h
  | [], _, _, _, _, h => by simp [z3] at h
  | _ :: _, [], _, _, _, h => by simp [z3] at h
  | _ :: _, _ :: _, [], _, _, h => by simp [z3] at h
theorem zip_fst {α β : Type} : ∀ {ts : List α} {us : List β}, ts.length = us.length → (ts.zip us).map (·.1) = ts
  | [], [], _ => rfl
  | t :: ts, u :: us, h => by rw [List.zip_cons_cons, List.map_cons, zip_fst (by simpa using h)]
theorem zip_snd {α β : Type} : ∀ {ts : List α} {us : List β}, ts.length = us.length → (ts.zip us).map (·.2) = us
  | [], [], _ => rfl
  | t :: ts, u :: us, h => by rw [List.zip_cons_cons, List.map_cons, zip_snd (by simpa using h)]
theorem vals_refs : ∀ ts : List Addr, Vals (ts.map V.ref) (ts.map Value.ref)
  | [] => .nil
  | t :: ts => .cons rfl (vals_refs ts)
/-- list(zip(x, y, z)) of three lists -/
def tLz3 (K : PySem.W.Frag) (ta : TA) : TE := fun σ H Q => ta σ H fun vs H1 => ∃ a b c xs ys zs, vs = [.ref a, .ref b, .ref c] ∧ SqL K H1 a xs ∧ SqL K H1 b ys ∧ SqL K H1 c zs ∧
  ∀ (p : Addr) (l : List (Addr × HO)), l.map (·.2) = (z3 (fun x y z => [x, y, z]) xs ys zs).map HO.tup → (l.map (·.1)).Nodup → p ∉ l.map (·.1) → (∀ q ∈ l, H1 q.1 = none) → H1 p = none → Q (.ref p) (upd (lay l H1) p (.lst (l.map fun q => V.ref q.1)))
theorem pe_lz3 {X : Cx} {e e2 e3 : Expr} {ta : TA} {p pz pos posz : Pos} (hc : X.calm = true) (hgl : Gl X "list") (hml : X.mg "list" = none) (hg : Gl X "zip") (hm : X.mg "zip" = none) (ha : PA X [e, e2, e3] ta)
    (h0 : starEach [.Call (.Name "zip" pz) [e, e2, e3] [] posz] X.env = (false, eval (.Call (.Name "zip" pz) [e, e2, e3] [] posz) X.env) :: starEach [] X.env := by rfl)
    (hs : starEach [e, e2, e3] X.env = (false, eval e X.env) :: starEach [e2, e3] X.env := by rfl) (hpl : (backTo posz (starEach [e2, e3] X.env)).any (·.1) = false := by rfl) :
    PE X (.Call (.Name "list" p) [.Call (.Name "zip" pz) [e, e2, e3] [] posz] [] pos) (tLz3 X.K ta) := by
  refine ⟨fun pins s σ H Q I h => ?_⟩
  refine Call_ (ld_blt I hgl hml boot_list (PyProof.Rows.callWith_type1 (args_cons (Call_ (ld_blt I hg hm PyProof.Rows.boot_zip (PyProof.Rows.callWith_type1 (thn (ha.run posz pins s σ H _ I h) fun us s1 ⟨vs, H1, I1, r1, q1⟩ => ?_) hs hpl))) h0) h0))
  obtain ⟨a, b, c, xs, ys, zs, ex, hqx, hqy, hqz, q⟩ := q1
  subst ex
  cases r1 with
  | cons r rr =>
    cases rr with
    | cons r' rr =>
      cases rr with
      | cons r'' rr =>
        cases rr
        cases r
        cases r'
        cases r''
        obtain ⟨its, rv, p1, lx⟩ := I1.list hqx
        obtain ⟨its2, rv2, p2, ly⟩ := I1.list hqy
        obtain ⟨its3, rv3, p3, lz⟩ := I1.list hqz
        have la : a < s1.heap.objs.size := by obtain ⟨_, _, e, _⟩ := p1; exact Heap.lt_size e
        have lb : b < s1.heap.objs.size := by obtain ⟨_, _, e, _⟩ := p2; exact Heap.lt_size e
        have lc : c < s1.heap.objs.size := by obtain ⟨_, _, e, _⟩ := p3; exact Heap.lt_size e
        refine zip_begins3 (begins_list a its.toArray) (begins_list b its2.toArray) (begins_list c its3.toArray) p1.isList p2.isList p3.isList fun h' hz hTI hTO g1 g2 g3 hsz hk => args_nil ?_
        have l1 := rv.length
        have l2 := rv2.length
        have l3 := rv3.length
        have s1' : its.toArray.size = its.length := List.size_toArray
        have s2' : its2.toArray.size = its2.length := List.size_toArray
        have s3' : its3.toArray.size = its3.length := List.size_toArray
        have hh : X.A.handled = none := I1.ok.hd hc
        have n1 : a ≠ s1.heap.objs.size := Nat.ne_of_lt la
        have n2 : b ≠ s1.heap.objs.size + 1 := Nat.ne_of_lt (Nat.lt_succ_of_lt lb)
        have n3 : c ≠ s1.heap.objs.size + 2 := Nat.ne_of_lt (Nat.lt_of_lt_of_le lc (Nat.le_add_right _ _))
        have bound : ∀ {d e : Nat}, d < s1.heap.objs.size + 6 → e < s1.heap.objs.size → ∀ q ∈ [d, e], q < h'.objs.size := fun {d e} hd he q hq => by
          simp only [List.mem_cons, List.not_mem_nil, or_false] at hq
          rw [hsz]
          rcases hq with rfl | rfl
          · exact hd
          · exact Nat.lt_of_lt_of_le he (Nat.le_add_right _ _)
        refine list_zip3 (s := { s1 with heap := h' }) (n := min (min xs.length ys.length) zs.length) (sep_of la lb lc) (Draws.list (A := X.A.in1.in1.in1) hh _ a n1 its.toArray) (Draws.list (A := X.A.in1.in1.in1) hh _ b n2 its2.toArray) (Draws.list (A := X.A.in1.in1.in1) hh _ c n3 its3.toArray) (by omega) (by omega) (by omega) (by omega) (by omega) hz ⟨_, _, _, hTO⟩ hTI ⟨⟨_, g1, rfl, rfl⟩, ?_⟩ ⟨⟨_, g2, rfl, rfl⟩, ?_⟩ ⟨⟨_, g3, rfl, rfl⟩, ?_⟩ (bound (by omega) la) (bound (by omega) lb) (bound (by omega) lc) fun h2 tk ts cc hk2 hL hlen hgot => ?_
        · exact p1.isList.at fun o e => hk a o e
        · exact p2.isList.at fun o e => hk b o e
        · exact p3.isList.at fun o e => hk c o e
        have hkk : ∀ q o, s1.heap.get? q = some o → h2.get? q = some o := fun q o e => by
          have hlt := Heap.lt_size e
          refine hk2 q o ?_ ?_ ?_ ?_ ?_ (hk q o e)
          · exact Nat.ne_of_lt (Nat.lt_of_lt_of_le hlt (Nat.le_add_right _ _))
          · exact Nat.ne_of_lt (Nat.lt_of_lt_of_le hlt (Nat.le_add_right _ _))
          · exact Nat.ne_of_lt hlt
          · exact Nat.ne_of_lt (Nat.lt_of_lt_of_le hlt (Nat.le_add_right _ _))
          · exact Nat.ne_of_lt (Nat.lt_of_lt_of_le hlt (Nat.le_add_right _ _))
        have hsz2 : s1.heap.objs.size ≤ h'.objs.size := by rw [hsz]; exact Nat.le_add_right _ _
        let us := z3 (fun x y z => [x, y, z]) xs ys zs
        have hul : ts.length = (us.map HO.tup).length := by rw [List.length_map, hlen]; exact z3_len.symm
        have tsge : ∀ t ∈ ts, h'.objs.size + 1 ≤ t := fun t ht => by
          obtain ⟨j, hj⟩ := List.getElem?_of_mem ht
          exact (hgot.2 j t hj).1
        have pno : h'.objs.size ∉ ts := fun z => Nat.lt_irrefl _ (tsge _ z)
        have fresh : ∀ {q : Addr}, s1.heap.objs.size ≤ q → H1 q = none := fun h => I1.hok.fresh h
        have e1 : (ts.zip (us.map HO.tup)).map (·.1) = ts := zip_fst hul
        have e2 : (ts.zip (us.map HO.tup)).map (·.2) = us.map HO.tup := zip_snd hul
        have okl : ObjOk X.prog X.w H1 h2 h'.objs.size (.lst (ts.map V.ref)) := ⟨by rw [List.length_map, hlen]; omega, ts.map Value.ref, cc, vals_refs ts, hL⟩
        have okt : ∀ q ∈ ts.zip (us.map HO.tup), ∀ H' : Hp, ObjOk X.prog X.w H' h2 q.1 q.2 := fun q hq H' => by
          obtain ⟨j, hj⟩ := List.getElem?_of_mem hq
          rw [List.getElem?_zip_eq_some] at hj
          obtain ⟨hj1, hj2⟩ := hj
          rw [List.getElem?_map] at hj2
          cases eu : us[j]? with
          | none => rw [eu] at hj2; cases hj2
          | some vs =>
            rw [eu] at hj2
            have hq2 : HO.tup vs = q.2 := Option.some.inj hj2
            rw [← hq2]
            obtain ⟨x, y, z, ex, ey, ez, rfl⟩ := z3_at eu
            obtain ⟨_, x1, x2, x3, hT, y1, y2, y3⟩ := hgot.2 j q.1 hj1
            obtain ⟨u1, hu1, ru1⟩ := rv.get ex
            obtain ⟨u2, hu2, ru2⟩ := rv2.get ey
            obtain ⟨u3, hu3, ru3⟩ := rv3.get ez
            have f1 : its[j]? = some x1 := by simpa using y1
            have f2 : its2[j]? = some x2 := by simpa using y2
            have f3 : its3[j]? = some x3 := by simpa using y3
            rw [hu1] at f1; cases f1
            rw [hu2] at f2; cases f2
            rw [hu3] at f3; cases f3
            exact ⟨by show 3 ≤ sizeLine; decide, [x1, x2, x3], .cons ru1 (.cons ru2 (.cons ru3 .nil)), ⟨_, hT, rfl, _, rfl⟩⟩
        have I2 : Inv X pins σ (lay ((h'.objs.size, HO.lst (ts.map V.ref)) :: ts.zip (us.map HO.tup)) H1) { s1 with heap := h2, toks := tk } := by
          refine inv_lays I1 hkk (fun q hq => ?_) ?_ fun q hq H' => ?_
          · rcases List.mem_cons.mp hq with rfl | hq
            · exact hsz2
            · have : q.1 ∈ ts := by rw [← e1]; exact List.mem_map_of_mem hq
              exact Nat.le_trans hsz2 (Nat.le_of_succ_le (tsge _ this))
          · rw [List.map_cons, e1, List.nodup_cons]
            exact ⟨pno, hgot.1⟩
          · rcases List.mem_cons.mp hq with rfl | hq
            · exact okl
            · exact okt q hq H'
        have eH : lay ((h'.objs.size, HO.lst (ts.map V.ref)) :: ts.zip (us.map HO.tup)) H1 = upd (lay (ts.zip (us.map HO.tup)) H1) h'.objs.size (.lst ((ts.zip (us.map HO.tup)).map fun q => V.ref q.1)) := by
          have e3 : ((ts.zip (us.map HO.tup)).map fun q => V.ref q.1) = ts.map V.ref := by
            rw [show ((ts.zip (us.map HO.tup)).map fun q => V.ref q.1) = ((ts.zip (us.map HO.tup)).map (·.1)).map V.ref by rw [List.map_map]; rfl, e1]
          rw [e3]
          funext d
          by_cases hd : d = h'.objs.size
          · subst hd
            rw [upd_same]
            show lay (ts.zip (us.map HO.tup)) (upd H1 _ _) _ = _
            rw [lay_out (by rw [e1]; exact pno), upd_same]
          · rw [upd_ne hd]
            show lay (ts.zip (us.map HO.tup)) (upd H1 _ _) d = _
            by_cases hd2 : d ∈ ts
            · have : d ∈ (ts.zip (us.map HO.tup)).map (·.1) := by rw [e1]; exact hd2
              obtain ⟨q, hq, rfl⟩ := List.mem_map.mp this
              rw [lay_in (by rw [e1]; exact hgot.1) hq, lay_in (by rw [e1]; exact hgot.1) hq]
            · rw [lay_out (by rw [e1]; exact hd2), lay_out (by rw [e1]; exact hd2), upd_ne hd]
        rw [eH] at I2
        refine ⟨.ref h'.objs.size, _, I2, rfl, q h'.objs.size (ts.zip (us.map HO.tup)) e2 (by rw [e1]; exact hgot.1) (by rw [e1]; exact pno) (fun q hq => fresh ?_) (fresh hsz2)⟩
        have : q.1 ∈ ts := by rw [← e1]; exact List.mem_map_of_mem hq
        exact Nat.le_trans hsz2 (Nat.le_of_succ_le (tsge _ this))
end Z3
namespace M
open PySem PySem.Spec PyProof.Rows L2 Z3
def zip3D (xs ys zs : List D) : List D := z3 (fun a b c => D.tup [a, b, c]) xs ys zs
section
variable {X : Cx} {pos : Pos}
theorem lay_ice {K : PySem.W.Frag} {M : List Addr} : ∀ {l : List (Addr × HO)} {vss : List (List V)} {dss : List (List D)} {F H : Hp}, l.map (·.2) = vss.map HO.tup → (l.map (·.1)).Nodup → (∀ q ∈ l, H q.1 = none) → Wd F H M → dss.length = vss.length → (∀ (j : Nat) (ds : List D) (vs : List V), dss[j]? = some ds → vss[j]? = some vs → RpL K F H ds vs []) →
    ∃ F', Wd F' (lay l H) M ∧ Tr F H [] F' (lay l H) [] ∧ (∀ a ∈ M, lay l H a = H a) ∧ RpL K F' (lay l H) (dss.map D.tup) (l.map fun q => V.ref q.1) []
  | [], [], [], F, H, _, _, _, w, _, _ => ⟨F, w, Tr.refl _ _ _, fun _ _ => rfl, .nil⟩
  | [], [], _ :: _, _, _, _, _, _, _, hl, _ => by simp at hl
  | [], _ :: _, _, _, _, e, _, _, _, _, _ => by simp at e
  | _ :: _, [], _, _, _, e, _, _, _, _, _ => by simp at e
  | _ :: _, _ :: _, [], _, _, _, _, _, _, hl, _ => by simp at hl
  | (p, o) :: l, vs :: vss, ds :: dss, F, H, e, nd, hn, w, hl, hr => by
    rw [List.map_cons, List.map_cons, List.cons.injEq] at e
    obtain ⟨e0, e⟩ := e
    have e0 : o = .tup vs := e0
    subst e0
    rw [List.map_cons, List.nodup_cons] at nd
    have hp : H p = none := hn _ List.mem_cons_self
    obtain ⟨w1, t1, k1, u1⟩ := new_ice (o := .tup vs) w hp
    obtain ⟨w2, t2, k2, u2⟩ := new_ice (o := .tup vs) (w.part (List.nil_sublist M)) hp
    have hn' : ∀ q ∈ l, upd H p (.tup vs) q.1 = none := fun q hq => by
      rw [upd_ne (fun z => nd.1 (List.mem_map.mpr ⟨q, hq, z⟩))]
      exact hn q (List.mem_cons_of_mem _ hq)
    obtain ⟨F', w', t', k', r'⟩ := lay_ice (M := M) (l := l) (vss := vss) (dss := dss) e nd.2 hn' w1 (by simpa using hl) fun j ds' vs' h1 h2 => (hr (j + 1) ds' vs' (by simpa using h1) (by simpa using h2)).mono u1 fun a h => nomatch h
    have r0 := (hr 0 ds vs rfl rfl).mono (fun a u h => t'.up a u (u1 a u h)) (H' := lay l (upd H p (.tup vs))) fun a h => nomatch h
    refine ⟨F', w', t2.trans (w.part (List.nil_sublist M)) w2 t', fun a h => (k' a h).trans (k1 a h), ?_⟩
    have ht : F' p = some (.tup vs) := t'.up p _ upd_same
    exact .cons (M := []) (N := []) (.tup (SqT.of ht) r0) r'
def wlz3 (a b c : DE) : DE := fun s Q => a s fun x s1 => b s1 fun y s2 => c s2 fun z s3 => ∃ xs ys zs, lstOf x = some xs ∧ lstOf y = some ys ∧ lstOf z = some zs ∧ fzL xs = xs ∧ fzL ys = ys ∧ fzL zs = zs ∧ Q (.lst true (zip3D xs ys zs)) s3
def of3 (K : D → D → D → DS → Prop) : List D → DS → Prop := fun xs s => match xs with
  | [x, y, z] => K x y z s
  | _ => False
theorem me_lz3 {e e2 e3 : Expr} {a b c : DE} {p pz posz : Pos} (hc : X.calm = true) (hml : X.mg "list" = none) (hm : X.mg "zip" = none) (ha : MEs X [e, e2, e3] (wcons a (wcons b (wcons c wnil)))) (hgl : Gl X "list" := by rfl) (hg : Gl X "zip" := by rfl)
    (h0 : starEach [.Call (.Name "zip" pz) [e, e2, e3] [] posz] X.env = (false, eval (.Call (.Name "zip" pz) [e, e2, e3] [] posz) X.env) :: starEach [] X.env := by rfl)
    (hs : starEach [e, e2, e3] X.env = (false, eval e X.env) :: starEach [e2, e3] X.env := by rfl) (hpl : (backTo posz (starEach [e2, e3] X.env)).any (·.1) = false := by rfl) :
    ME X (.Call (.Name "list" p) [.Call (.Name "zip" pz) [e, e2, e3] [] posz] [] pos) (wlz3 a b c) := ⟨fun {F H M σ ds Q} w0 s0 q => by
  refine to_wE (pe_lz3 hc hgl hml hg hm (pa_w [e, e2, e3]) h0 hs hpl) ?_
  refine (ha.run w0 s0 (Q := of3 fun x y z s3 => ∃ xs ys zs, lstOf x = some xs ∧ lstOf y = some ys ∧ lstOf z = some zs ∧ fzL xs = xs ∧ fzL ys = ys ∧ fzL zs = zs ∧ Q (.lst true (zip3D xs ys zs)) s3) q).imp fun vs H1 ⟨xs, ds1, F1, N, M1, hv, w1, t1, r1, s1, k1⟩ => ?_
  match xs, k1 with
  | [x, y, z], k1 =>
    obtain ⟨xs, ys, zs, ex, ey, ez, fx, fy, fz', k1⟩ := k1
    cases r1 with
    | @cons _ v1 _ _ A B ra rb =>
    cases rb with
    | @cons _ v2 _ _ A2 B2 rb rc =>
    obtain ⟨v3, rfl, rc'⟩ := rc.inv1
    obtain ⟨a1, u1, _, rfl, q1, l1, _⟩ := ra.seq w1.sub ex
    obtain ⟨a2, u2, _, rfl, q2, l2, _⟩ := rb.seq w1.sub ey
    obtain ⟨a3, u3, _, rfl, q3, l3, _⟩ := rc'.seq w1.sub ez
    refine ⟨a1, a2, a3, u1, u2, u3, rfl, q1, q2, q3, fun pp l el nd pno fr hp => ?_⟩
    have L1 := l1.ice0 fx
    have L2' := l2.ice0 fy
    have L3 := l3.ice0 fz'
    have n1 := l1.len
    have n2 := l2.len
    have n3 := l3.len
    have wM : Wd F1 H1 M1 := w1.part (List.sublist_append_right _ _)
    obtain ⟨F2, w2, t2, k2, r2⟩ := lay_ice (K := X.K) (M := M1) (dss := z3 (fun a b c => [a, b, c]) xs ys zs) el nd fr wM (by rw [z3_len, z3_len]; omega) fun j ds' vs' h1 h2 => by
      obtain ⟨x1, y1, z1, e1, e2, e3, rfl⟩ := z3_at h1
      obtain ⟨x2, y2, z2, g1, g2, g3, rfl⟩ := z3_at h2
      exact .cons (M := []) (N := []) (L1.at0 e1 g1) (.cons (M := []) (N := []) (L2'.at0 e2 g2) (.cons (M := []) (N := []) (L3.at0 e3 g3) .nil))
    have hp2 : lay l H1 pp = none := (lay_out pno).trans hp
    obtain ⟨w3, t3, k3⟩ := new_own (o := .lst (l.map fun q => V.ref q.1)) w2 hp2
    have b := frame (A := []) (B := []) (R := M1) wM t2 (w2.part (List.nil_sublist _))
    have em : (z3 (fun a b c => [a, b, c]) xs ys zs).map D.tup = zip3D xs ys zs := by
      unfold zip3D
      have : ∀ {xs ys zs : List D}, (z3 (fun a b c => [a, b, c]) xs ys zs).map D.tup = z3 (fun a b c => D.tup [a, b, c]) xs ys zs := by
        intro xs
        induction xs with
        | nil => intro ys zs; rfl
        | cons x xs ih =>
          intro ys zs
          cases ys with
          | nil => rfl
          | cons y ys =>
            cases zs with
            | nil => rfl
            | cons z zs => simp only [z3, List.map_cons, ih]
      exact this
    rw [em] at r2
    refine ⟨.lst true (zip3D xs ys zs), ds1, F2, [pp], M1, w3, ?_, .lstO upd_same (r2.mono (fun _ _ h => h) fun a h => nomatch h), (s1.mono t2.up k2).mono (fun _ _ h => h) k3, k1⟩
    have t1' : Tr F H M F1 H1 M1 := t1.drop fun a h => List.mem_append_right _ h
    exact (t1'.trans w0 wM b.tr).trans w0 w2 t3⟩
/-! ### walks of zip(x, y, z), three tuples -/
theorem walks_zip3 {a b c : Addr} {ds es gs : List D} {N N' N'' : List Addr} (f0 : fzL ds = ds) (f1 : fzL es = es) (f2 : fzL gs = gs) (hl1 : ds.length = es.length) (hl2 : ds.length = gs.length) :
    Walks X (Itz3 X.K a b c) (fun F H => Rp X.K F H (.tup ds) (.ref a) N ∧ Rp X.K F H (.tup es) (.ref b) N' ∧ Rp X.K F H (.tup gs) (.ref c) N'') (zip3D ds es gs) where
  go := fun {F H i} w p hi => by
    obtain ⟨_, vs, eb, q, l⟩ := p.1.tpl w
    cases eb
    obtain ⟨_, us, eb, q', l'⟩ := p.2.1.tpl w
    cases eb
    obtain ⟨_, ts, eb, q'', l''⟩ := p.2.2.tpl w
    cases eb
    have h1 := l.len
    have h2 := l'.len
    have h3 := l''.len
    unfold zip3D at hi
    rw [z3_len] at hi
    exact ⟨vs, us, ts, vs[i], us[i], ts[i], q, q', q'', List.getElem?_eq_getElem (by omega), List.getElem?_eq_getElem (by omega), List.getElem?_eq_getElem (by omega)⟩
  stop := fun {F H} w p => by
    obtain ⟨_, vs, eb, q, l⟩ := p.1.tpl w
    cases eb
    obtain ⟨_, us, eb, q', l'⟩ := p.2.1.tpl w
    cases eb
    obtain ⟨_, ts, eb, q'', l''⟩ := p.2.2.tpl w
    cases eb
    have h1 := l.len
    have h2 := l'.len
    have h3 := l''.len
    unfold zip3D
    rw [z3_len]
    exact ⟨vs, us, ts, q, q', q'', by omega, by omega, by omega, by omega⟩
  item := fun {F H H' M i x dd} w p y ed => by
    obtain ⟨_, vs, eb, q, l⟩ := p.1.tpl w.sub
    cases eb
    obtain ⟨_, us, eb, q', l'⟩ := p.2.1.tpl w.sub
    cases eb
    obtain ⟨_, ts, eb, q'', l''⟩ := p.2.2.tpl w.sub
    cases eb
    obtain ⟨T, z, z', z'', rfl, hT, rfl, hx, hx', hx''⟩ := y
    obtain ⟨a', b', c', e1, e2, e3, rfl⟩ := z3_at ed
    exact made_pair w hT (.cons (M := []) (N := []) ((l.ice0 f0).at0 e1 (hx vs q)) (.cons (M := []) (N := []) ((l'.ice0 f1).at0 e2 (hx' us q')) (.cons (M := []) (N := []) ((l''.ice0 f2).at0 e3 (hx'' ts q'')) .nil)))
def izip3 (a b c : DE) : DS → (List D → DS → Prop) → Prop := fun s k => a s fun x s1 => b s1 fun y s2 => c s2 fun z s3 => ∃ xs ys zs, x = .tup xs ∧ y = .tup ys ∧ z = .tup zs ∧ fzL xs = xs ∧ fzL ys = ys ∧ fzL zs = zs ∧ xs.length = ys.length ∧ xs.length = zs.length ∧ k (zip3D xs ys zs) s3
theorem mi_zip3 {elts : List Expr} {kk : Nat} {tpos p : Pos} {e e' e'' : Expr} {a a' a'' : DE} (hm : X.mg "zip" = none) (h : MEs X [e, e', e''] (wcons a (wcons a' (wcons a'' wnil)))) (hg : Gl X "zip" := by rfl) (hs : starEach [e, e', e''] X.env = (false, eval e X.env) :: starEach [e', e''] X.env := by rfl) (hpl : (backTo pos (starEach [e', e''] X.env)).any (·.1) = false := by rfl) :
    MI X (.Tuple elts kk tpos) (.Call (.Name "zip" p) [e, e', e''] [] pos) (izip3 a a' a'') := ⟨_, pi_zip3 hg hm (pa_w [e, e', e'']) hs hpl, fun {F H M σ ds k} w0 s0 q => by
  refine (h.run w0 s0 (Q := of3 fun x y z s3 => ∃ xs ys zs, x = .tup xs ∧ y = .tup ys ∧ z = .tup zs ∧ fzL xs = xs ∧ fzL ys = ys ∧ fzL zs = zs ∧ xs.length = ys.length ∧ xs.length = zs.length ∧ k (zip3D xs ys zs) s3) q).imp fun vs H1 ⟨xs, ds1, F1, N, M1, hv, w1, t1, r1, s1, k1⟩ => ?_
  match xs, k1 with
  | [x, y, z], k1 =>
    obtain ⟨xs, ys, zs, rfl, rfl, rfl, fx, fy, fz', h1, h2, k1⟩ := k1
    cases r1 with
    | @cons _ v1 _ _ A B ra rb =>
    cases rb with
    | @cons _ v2 _ _ A2 B2 rb rc =>
    obtain ⟨v3, rfl, rc'⟩ := rc.inv1
    obtain ⟨a1, u1, rfl, q1, l1⟩ := ra.tpl w1.sub
    obtain ⟨a2, u2, rfl, q2, l2⟩ := rb.tpl w1.sub
    obtain ⟨a3, u3, rfl, q3, l3⟩ := rc'.tpl w1.sub
    have L : Lies (A ++ (A2 ++ B2)) (fun F H => Rp X.K F H (.tup xs) (.ref a1) A ∧ Rp X.K F H (.tup ys) (.ref a2) A2 ∧ Rp X.K F H (.tup zs) (.ref a3) B2) := fun {_ _ _ _} up k p => ⟨p.1.mono up fun a h => k a (List.mem_append_left _ h), p.2.1.mono up fun a h => k a (List.mem_append_right _ (List.mem_append_left _ h)), p.2.2.mono up fun a h => k a (List.mem_append_right _ (List.mem_append_right _ h))⟩
    exact ⟨a1, a2, a3, u1, u2, u3, rfl, q1, q2, q3, _, ds1, F1, A ++ (A2 ++ B2), M1, _, w1, t1, s1, ⟨ra, rb, rc'⟩, walks_zip3 fx fy fz' h1 h2, L, k1⟩⟩
end
end M

namespace Z3
open PySem PySem.Spec PyProof.Rows L2
theorem args_sum2 (a b : Value) : argsOk "sum" ⟨[a, b], []⟩ := by unfold argsOk; kernel_rfl
theorem sub_list_str : isSubtype (.type "list") (.type "str") = pure false := by rw [isSubtype_type]; kernel_rfl
theorem sub_list_bytes : isSubtype (.type "list") (.type "bytes") = pure false := by rw [isSubtype_type]; kernel_rfl
theorem sub_list_bytearray : isSubtype (.type "list") (.type "bytearray") = pure false := by rw [isSubtype_type]; kernel_rfl
section
variable {prog : Program} {w : World} {A : Around} {E : Value → Shared → Prop} {s : Shared} {I S l b : Addr} {as : List Addr} {vss : List (List Value)} {R : Result → Shared → Prop}
theorem add_raw {l b : Addr} {vs ws : List Value} {Q : Value → Shared → Prop} (hl : s.heap.IsList l vs.toArray) (hb : s.heap.IsList b ws.toArray)
    (h : Q (.ref s.heap.objs.size) { s with heap := s.heap.push { cls := .type "list", data := .seq (vs ++ ws).toArray } }) (hsz : vs.length + ws.length ≤ sizeLine) : wpAny (model prog w) A (binaryOp .Add (.ref l) (.ref b)) Q E s := by
  obtain ⟨⟨cls, dd, data, sl⟩, ho, hc, n, hd⟩ := id hl
  obtain ⟨⟨cls2, dd2, data2, sl2⟩, ho2, hc2, n2, hd2⟩ := id hb
  simp only at hc hd hc2 hd2
  subst hc hd hc2 hd2
  have e : vs.toArray ++ ws.toArray = (vs ++ ws).toArray := by simp
  refine concat_meets ⟨_, ho, rfl⟩ ⟨_, ho2, rfl⟩ noFill_list_add seq_list_add PySem.F.slot_list_add PySem.F.entry_list_add (PySem.F.args_list_add_2 _ _) (list_addW l b vs.toArray ws.toArray n n2 dd dd2 sl sl2 (by simpa using hsz)) ⟨ho, ho2, ?_⟩
  rw [e]
  exact h
/-- what the sum has so far -/
structure SumSt (I S l b : Addr) (as : List Addr) (vss : List (List Value)) (N : Nat) (i : Nat) (T : Addr) (h : Heap) : Prop where
  it : h.IsListIter I l i
  ls : h.IsList l (as.map Value.ref).toArray
  el : ∀ (j : Nat) (a : Addr) (vs : List Value), as[j]? = some a → vss[j]? = some vs → h.IsList a vs.toArray
  tot : h.IsList T ((vss.take i).flatten).toArray
  st : ∃ c, h.get? S = some { cls := .type "list", dict := none, data := .seq #[.ref T] c, slots := #[] }
  ti : T ≠ I
  ts : T ≠ S
  lx : (i = 0 ∧ T = b) ∨ (0 < i ∧ N ≤ T ∧ ∃ c, h.get? T = some { cls := .type "list", dict := none, data := .seq ((vss.take i).flatten).toArray c, slots := #[] })
theorem sum_loop {N : Nat} (hh : A.handled = none) (len : as.length = vss.length) (hsz : vss.flatten.length ≤ sizeLine) (lI : l ≠ I) (lS : l ≠ S) (IS : I ≠ S) (aI : ∀ a ∈ as, a ≠ I) (aS : ∀ a ∈ as, a ≠ S) (hIN : I < N) (hSN : S < N) :
    ∀ (k i : Nat) (s : Shared) (T : Addr), as.length - i = k → i ≤ as.length → N ≤ s.heap.objs.size → SumSt I S l b as vss N i T s.heap →
    (∀ h' tk T', (∀ q o, q ≠ I → q ≠ S → s.heap.get? q = some o → h'.get? q = some o) → ((as.length = 0 ∧ T' = b) ∨ (0 < as.length ∧ N ≤ T' ∧ ∃ c, h'.get? T' = some { cls := .type "list", dict := none, data := .seq ((vss.take as.length).flatten).toArray c, slots := #[] })) → R (.ok (.ret (.ref T'))) { s with heap := h', toks := tk }) →
    codeAny (model prog w) A (.builtin "sum.loop" ⟨[.ref I, .ref S, rawInt 2, rawInt 0], []⟩) R s := by
  intro k
  induction k with
  | zero =>
    intro i s T hk hi hN x hR
    have hin : i = as.length := by omega
    subst hin
    obtain ⟨c, hS⟩ := x.st
    refine codeAny_builtin F.entry_sum_loop ?_
    rw [Around.under_plainId F.plain_sum_loop _]
    show wpAny _ A.in1 (seqItems? (.ref S) >>= _) _ _ s
    refine wpAny_bind (wpAny_seqItems hS rfl ?_)
    show wpAny _ A.in1 (tryCatch (pyNext (.ref I)) _ >>= _) _ _ s
    refine wpAny_bind (wpAny_tryCatch (wpAny_pyNext_list_end hh x.it x.ls (by simp) fun h' eb => ?_))
    refine wpAny_pure (hR h' s.toks T (fun q o hq _ e => eb q o hq e) ?_)
    exact x.lx.imp id fun ⟨h0, h1, c, h2⟩ => ⟨h0, h1, c, eb _ _ x.ti h2⟩
  | succ k ih =>
    intro i s T hk hi hN x hR
    have hlt : i < as.length := by omega
    obtain ⟨c, hS⟩ := x.st
    refine codeAny_builtin F.entry_sum_loop ?_
    rw [Around.under_plainId F.plain_sum_loop _]
    show wpAny _ A.in1 (seqItems? (.ref S) >>= _) _ _ s
    refine wpAny_bind (wpAny_seqItems hS rfl ?_)
    show wpAny _ A.in1 (tryCatch (pyNext (.ref I)) _ >>= _) _ _ s
    have ea : as[i]? = some as[i] := List.getElem?_eq_getElem hlt
    have ev : vss[i]? = some (vss[i]'(by omega)) := List.getElem?_eq_getElem (by omega)
    refine wpAny_bind (wpAny_tryCatch (wpAny_pyNext_list_item x.it x.ls (x := .ref as[i]) (by simp [ea]) fun h1 hit1 hs1 => ?_))
    have k1 : ∀ q o, q ≠ I → s.heap.get? q = some o → h1.get? q = some o := fun q o hq e => (hs1.2 q hq).trans e
    have m : as[i] ∈ as := List.getElem_mem _
    have hl1 := (x.el i _ _ ea ev).at fun o e => k1 _ _ (aI _ m) e
    have ht1 := x.tot.at fun o e => k1 _ _ x.ti e
    have etake : (vss.take (i + 1)).flatten = (vss.take i).flatten ++ vss[i]'(by omega) := by
      rw [List.take_add_one, ev, List.flatten_append]; simp
    have hle : ((vss.take (i + 1)).flatten).length ≤ vss.flatten.length := by
      have : vss.flatten = (vss.take (i + 1)).flatten ++ (vss.drop (i + 1)).flatten := by rw [← List.flatten_append, List.take_append_drop]
      rw [this, List.length_append]; exact Nat.le_add_right _ _
    rw [etake, List.length_append] at hle
    have z1 : h1.objs.size = s.heap.objs.size := hs1.1
    show wpAny _ A.in1 (((holding [.ref as[i]] (binaryOp .Add (.ref T) (.ref as[i]))).attempt) >>= _) _ _ { s with heap := h1 }
    refine wpAny_bind (wpAny_attempt (wpAny_holding (add_raw (s := { s with heap := h1 }) ht1 hl1 ?_ (by omega))))
    have S1 := k1 _ _ IS.symm hS
    show wpAny _ A.in1 (updateSeq S (fun _ => #[.ref h1.objs.size]) >>= _) _ _ _
    have up : ∀ q o, h1.get? q = some o → (h1.push { cls := .type "list", data := .seq ((vss.take i).flatten ++ vss[i]'(by omega)).toArray }).get? q = some o := fun q o e => Heap.get?_push_of_some _ e
    have hnew : (h1.push { cls := .type "list", data := .seq ((vss.take i).flatten ++ vss[i]'(by omega)).toArray }).get? h1.objs.size = some { cls := .type "list", data := .seq ((vss.take i).flatten ++ vss[i]'(by omega)).toArray } := Heap.get?_push_size _ rfl
    have z2 : (h1.push { cls := .type "list", data := .seq ((vss.take i).flatten ++ vss[i]'(by omega)).toArray }).objs.size = s.heap.objs.size + 1 := by rw [Heap.size_push, z1]
    generalize h1.push { cls := .type "list", data := .seq ((vss.take i).flatten ++ vss[i]'(by omega)).toArray } = h2 at up hnew z2
    have S2 := up _ _ S1
    refine wpAny_bind (wpAny_updateSeq (s := { s with heap := h2 }) S2 rfl ?_)
    have S3 := Heap.get?_update_self (Obj.mapSeq (fun _ => #[Value.ref h1.objs.size])) S2 rfl
    have oth : ∀ q o, q ≠ S → h2.get? q = some o → (h2.update S (Obj.mapSeq (fun _ => #[Value.ref h1.objs.size]))).get? q = some o := fun q o hq e => (Heap.get?_update_other _ _ (Ne.symm hq)).trans e
    have z3 : (h2.update S (Obj.mapSeq (fun _ => #[Value.ref h1.objs.size]))).objs.size = s.heap.objs.size + 1 := by rw [Heap.size_update, z2]
    obtain ⟨c3, S3⟩ : ∃ c, (h2.update S (Obj.mapSeq (fun _ => #[Value.ref h1.objs.size]))).get? S = some { cls := .type "list", dict := none, data := .seq #[.ref h1.objs.size] c, slots := #[] } := ⟨_, S3⟩
    generalize h2.update S (Obj.mapSeq (fun _ => #[Value.ref h1.objs.size])) = h3 at S3 oth z3
    refine wpAny_bind (wpAny_letGo ?_)
    show wpAny _ A.in1 (updateSeq S (fun _ => #[.ref h1.objs.size]) >>= _) _ _ _
    refine wpAny_bind (wpAny_updateSeq (s := { s with heap := h3 }) S3 rfl ?_)
    have S4 := Heap.get?_update_self (Obj.mapSeq (fun _ => #[Value.ref h1.objs.size])) S3 rfl
    have oth2 : ∀ q o, q ≠ S → h3.get? q = some o → (h3.update S (Obj.mapSeq (fun _ => #[Value.ref h1.objs.size]))).get? q = some o := fun q o hq e => (Heap.get?_update_other _ _ (Ne.symm hq)).trans e
    have z4 : (h3.update S (Obj.mapSeq (fun _ => #[Value.ref h1.objs.size]))).objs.size = s.heap.objs.size + 1 := by rw [Heap.size_update, z3]
    obtain ⟨c4, S4⟩ : ∃ c, (h3.update S (Obj.mapSeq (fun _ => #[Value.ref h1.objs.size]))).get? S = some { cls := .type "list", dict := none, data := .seq #[.ref h1.objs.size] c, slots := #[] } := ⟨_, S4⟩
    generalize h3.update S (Obj.mapSeq (fun _ => #[Value.ref h1.objs.size])) = h4 at S4 oth2 z4
    have all : ∀ q o, q ≠ I → q ≠ S → s.heap.get? q = some o → h4.get? q = some o := fun q o e1 e2 e => oth2 q o e2 (oth q o e2 (up q o (k1 q o e1 e)))
    have n1 : h1.objs.size ≠ I := fun e => Nat.lt_irrefl _ (Nat.lt_of_lt_of_le hIN (Nat.le_trans hN (by rw [← z1, e]; exact Nat.le_refl _)))
    have n2 : h1.objs.size ≠ S := fun e => Nat.lt_irrefl _ (Nat.lt_of_lt_of_le hSN (Nat.le_trans hN (by rw [← z1, e]; exact Nat.le_refl _)))
    have T4 : h4.get? h1.objs.size = some { cls := .type "list", data := .seq ((vss.take i).flatten ++ vss[i]'(by omega)).toArray } := oth2 _ _ n2 (oth _ _ n2 hnew)
    refine wpAny_pure ⟨plainId_quiet F.plain_sum_loop _, ih (i + 1) { s with heap := h4 } h1.objs.size (by omega) hlt (by rw [show ({ s with heap := h4 } : Shared).heap.objs.size = _ from z4]; exact Nat.le_succ_of_le hN) ⟨?_, x.ls.at fun o e => all _ _ lI lS e, fun j a vs e1 e2 => (x.el j a vs e1 e2).at fun o e => all _ _ (aI a (List.mem_of_getElem? e1)) (aS a (List.mem_of_getElem? e1)) e, ?_, ⟨c4, S4⟩, n1, n2, .inr ⟨Nat.succ_pos _, ?_, 0, ?_⟩⟩ fun h' tk T' hk' hl' => hR h' tk T' (fun q o e1 e2 e => hk' q o e1 e2 (all q o e1 e2 e)) hl'⟩
    · exact hit1.at fun o e => oth2 _ _ IS (oth _ _ IS (up _ _ e))
    · rw [etake]; exact ⟨_, T4, rfl, 0, rfl⟩
    · rw [z1]; exact hN
    · rw [etake]; exact T4
/-- sum(l, b): lists, one behind another, behind an empty one -/
theorem call_sum_lists {Q : Value → Shared → Prop} (hh : A.handled = none) (len : as.length = vss.length) (hsz : vss.flatten.length ≤ sizeLine) (hl : s.heap.IsList l (as.map Value.ref).toArray) (hb : s.heap.IsList b #[]) (hv : ∀ (j : Nat) (a : Addr) (vs : List Value), as[j]? = some a → vss[j]? = some vs → s.heap.IsList a vs.toArray)
    (h : ∀ h' tk T, (∀ q o, s.heap.get? q = some o → h'.get? q = some o) → ((as.length = 0 ∧ T = b) ∨ (0 < as.length ∧ s.heap.objs.size ≤ T ∧ ∃ c, h'.get? T = some { cls := .type "list", dict := none, data := .seq (vss.flatten).toArray c, slots := #[] })) → Q (.ref T) { s with heap := h', toks := tk }) :
    wpAny (model prog w) A (call (.builtin "sum") [.ref l, .ref b]) Q E s := by
  have lt : ∀ {a : Addr} {its : Array Value}, s.heap.IsList a its → a < s.heap.objs.size := fun ⟨_, e, _⟩ => Heap.lt_size e
  refine call_function_tree F.kind_sum F.plain_sum F.entry_sum (args_sum2 _ _) ?_
  unfold Builtin.«sum»
  simp only [List.length_cons, List.length_nil]
  rw [if_neg (by decide)]
  refine wpAny_bind (wpAny_of_eq (show Builtin.Builtins.bindParams "sum" ["start"] 0 ⟨[.ref b], []⟩ = pure [some (.ref b)] from rfl) ?_)
  refine wpAny_bind (wpAny_pyIter_list hl ?_)
  refine wpAny_bind (wpAny_pure ?_)
  simp only [List.forIn_cons, List.forIn_nil]
  have up1 : ∀ q o, s.heap.get? q = some o → (s.heap.push { cls := .type "list_iterator", data := .fields #[.ref l, .int 0 0] }).get? q = some o := fun q o e => Heap.get?_push_of_some _ e
  have hI : (s.heap.push { cls := .type "list_iterator", data := .fields #[.ref l, .int 0 0] }).IsListIter s.heap.objs.size l 0 := ⟨_, Heap.get?_push_size _ rfl, rfl, rfl⟩
  have z1 : (s.heap.push { cls := .type "list_iterator", data := .fields #[.ref l, .int 0 0] }).objs.size = s.heap.objs.size + 1 := Heap.size_push ..
  generalize s.heap.push { cls := .type "list_iterator", data := .fields #[.ref l, .int 0 0] } = h1 at up1 hI z1
  have hT : ({ s with heap := h1 } : Shared).TypeIs (.ref b) "list" := by
    obtain ⟨o, e, ec, _⟩ := hb
    exact ⟨o, up1 _ _ e, ec⟩
  refine wpAny_bind (wpAny_bind (wpAny_bind (wpAny_isInstance (T := "list") (b := false) hT sub_list_str ?_)))
  simp only [Bool.false_eq_true, if_false]
  refine wpAny_pure (wpAny_bind (wpAny_bind (wpAny_isInstance (T := "list") (b := false) hT sub_list_bytes ?_)))
  simp only [Bool.false_eq_true, if_false]
  refine wpAny_pure (wpAny_bind (wpAny_bind (wpAny_isInstance (T := "list") (b := false) hT sub_list_bytearray ?_)))
  simp only [Bool.false_eq_true, if_false]
  refine wpAny_pure (wpAny_pure ?_)
  refine wpAny_bind (wpAny_newObj_type ?_)
  have up2 : ∀ q o, h1.get? q = some o → (h1.push { cls := .type "list", data := .seq #[Value.ref b] }).get? q = some o := fun q o e => Heap.get?_push_of_some _ e
  have hS : (h1.push { cls := .type "list", data := .seq #[Value.ref b] }).get? h1.objs.size = some { cls := .type "list", data := .seq #[Value.ref b] } := Heap.get?_push_size _ rfl
  have z2 : (h1.push { cls := .type "list", data := .seq #[Value.ref b] }).objs.size = s.heap.objs.size + 2 := by rw [Heap.size_push, z1]
  have hlI : ∀ {a : Addr}, a < s.heap.objs.size → a ≠ s.heap.objs.size := fun h => Nat.ne_of_lt h
  have hlS : ∀ {a : Addr}, a < s.heap.objs.size → a ≠ h1.objs.size := fun h => by rw [z1]; exact Nat.ne_of_lt (Nat.lt_succ_of_lt h)
  have hal : ∀ a ∈ as, a < s.heap.objs.size := fun a ha => by
    obtain ⟨j, hj⟩ := List.getElem?_of_mem ha
    have hjl : j < vss.length := by rw [← len]; exact (List.getElem?_eq_some_iff.mp hj).1
    exact lt (hv j a _ hj (List.getElem?_eq_getElem hjl))
  have b0 := lt hb
  refine wpAny_pure ⟨plainId_quiet F.plain_sum_loop _, sum_loop (b := b) (N := s.heap.objs.size + 2) hh len hsz (hlI (lt hl)) (hlS (lt hl)) (by rw [z1]; exact Nat.ne_of_lt (Nat.lt_succ_self _)) (fun a ha => hlI (hal a ha)) (fun a ha => hlS (hal a ha)) (Nat.lt_of_lt_of_le (Nat.lt_succ_self _) (Nat.le_succ _)) (by rw [z1]; exact Nat.lt_succ_self _) as.length 0 _ b rfl (Nat.zero_le _) (Nat.le_of_eq z2.symm) ⟨hI.at fun o e => up2 _ _ e, hl.at fun o e => up2 _ _ (up1 _ _ e), fun j a vs e1 e2 => (hv j a vs e1 e2).at fun o e => up2 _ _ (up1 _ _ e), hb.at fun o e => up2 _ _ (up1 _ _ e), ⟨0, hS⟩, hlI b0, hlS b0, .inl ⟨rfl, rfl⟩⟩ fun h' tk T' hk' hl' => ?_⟩
  refine h h' tk T' (fun q o e => hk' q o (hlI (Heap.lt_size e)) (hlS (Heap.lt_size e)) (up2 _ _ (up1 _ _ e))) (hl'.imp id fun ⟨h0, h1, c, h2⟩ => ⟨h0, Nat.le_trans (Nat.le_add_right _ 2) h1, c, ?_⟩)
  rw [len, List.take_length] at h2
  exact h2
end
end Z3

namespace M
open PySem PySem.Spec PyProof.Rows L2 Z3
section
variable {X : Cx} {pos : Pos}
/-! ### sum(lists, []) -/
def rSumL (K : PySem.W.Frag) : List V → Hp → VK → Prop := fun vs H Q => ∃ (a b : Addr) (as : List Addr) (uss : List (List V)), vs = [.ref a, .ref b] ∧ SqL K H a (as.map V.ref) ∧ SqL K H b [] ∧ as.length = uss.length ∧ (∀ (j : Nat) (c : Addr) (us : List V), as[j]? = some c → uss[j]? = some us → SqL K H c us) ∧ uss.flatten.length ≤ sizeLine ∧
  (as.length = 0 → Q (.ref b) H) ∧ (0 < as.length → ∀ p, H p = none → Q (.ref p) (upd H p (.lst uss.flatten)))
theorem refs_vals : ∀ {as : List Addr} {its : List Value}, Vals (as.map V.ref) its → its = as.map Value.ref
  | [], _, h => by cases h; rfl
  | a :: as, _, h => by
    cases h with
    | cons r rs =>
      cases r
      rw [refs_vals rs]; rfl
theorem pick_vals {pins : List (Addr × Obj)} {σ : L2.St} {H : Hp} {s : Shared} (I : Inv X pins σ H s) : ∀ {as : List Addr} {uss : List (List V)}, as.length = uss.length → (∀ (j : Nat) (c : Addr) (us : List V), as[j]? = some c → uss[j]? = some us → SqL X.K H c us) →
    ∃ vss : List (List Value), as.length = vss.length ∧ Vals uss.flatten vss.flatten ∧ ∀ (j : Nat) (a : Addr) (vs : List Value), as[j]? = some a → vss[j]? = some vs → s.heap.IsList a vs.toArray
  | [], [], _, _ => ⟨[], rfl, .nil, fun j a vs h => by simp at h⟩
  | a :: as, us :: uss, hl, h => by
    obtain ⟨vss, l, r, g⟩ := pick_vals I (as := as) (uss := uss) (by simpa using hl) fun j c us h1 h2 => h (j + 1) c us (by simpa using h1) (by simpa using h2)
    obtain ⟨its, rv, p, _⟩ := I.list (h 0 a us rfl rfl)
    refine ⟨its :: vss, congrArg (· + 1) l, by rw [List.flatten_cons, List.flatten_cons]; exact rv.append r, fun j a' vs h1 h2 => ?_⟩
    cases j with
    | zero =>
      simp only [List.getElem?_cons_zero, Option.some.injEq] at h1 h2
      subst h1 h2
      exact p.isList
    | succ j => exact g j a' vs (by simpa using h1) (by simpa using h2)
  | [], _ :: _, hl, _ => by simp at hl
  | _ :: _, [], hl, _ => by simp at hl
theorem cr_sumL (hc : X.calm = true) : CallR X (.builtin "sum") (rSumL X.K) := by
  intro pins s σ H vs us Q I r h
  obtain ⟨a, b, as, uss, rfl, ha, hb, hl, hj, hsz, q0, q1⟩ := h
  cases r with
  | cons ra rr =>
    cases rr with
    | cons rb rr =>
      cases rr
      cases ra
      cases rb
      obtain ⟨its, rv, p, _⟩ := I.list ha
      obtain ⟨its2, rv2, p2, _⟩ := I.list hb
      cases rv2
      rw [refs_vals rv] at p
      obtain ⟨vss, l, rf, g⟩ := pick_vals I hl hj
      refine call_sum_lists (as := as) (vss := vss) (I.ok.hd hc) l (by rw [← rf.length]; exact hsz) p.isList p2.isList g fun h' tk T hk hT => ?_
      rcases hT with ⟨h0, rfl⟩ | ⟨h0, h1, c, h2⟩
      · exact ⟨.ref T, H, I.kept hk, rfl, q0 h0⟩
      · exact ⟨.ref T, _, I.laid hk h1 (show ObjOk X.prog X.w _ _ _ (.lst uss.flatten) from ⟨hsz, vss.flatten, c, rf, h2⟩), rfl, q1 h0 T (I.hok.fresh h1)⟩
def wsumL (a : DE) : DE := fun s Q => a s fun x s1 => ∃ xss : List (List D), lstOf x = some (xss.map (D.lst false)) ∧ (∀ ys ∈ xss, fzL ys = ys) ∧ xss.flatten.length ≤ sizeLine ∧ Q (.lst true xss.flatten) s1
theorem refsL {K : PySem.W.Frag} {F H : Hp} (w : Sub F H) : ∀ {xss : List (List D)} {us : List V} {N : List Addr}, RpL K F H (xss.map (D.lst false)) us N → (∀ ys ∈ xss, fzL ys = ys) → ∃ (as : List Addr) (uss : List (List V)), us = as.map V.ref ∧ as.length = uss.length ∧ as.length = xss.length ∧ (∀ (j : Nat) (c : Addr) (us : List V), as[j]? = some c → uss[j]? = some us → SqL K H c us) ∧ RpL K F H xss.flatten uss.flatten []
  | [], _, _, h, _ => by cases h; exact ⟨[], [], rfl, rfl, rfl, fun j c us h => by simp at h, .nil⟩
  | ys :: xss, _, _, h, hz => by
    cases h with
    | cons r rs =>
      obtain ⟨as, uss, e1, e2, e3, e4, e5⟩ := refsL w rs fun y hy => hz y (List.mem_cons_of_mem _ hy)
      obtain ⟨a, us, _, rfl, q, l, _⟩ := r.seq w (ds := ys) rfl
      refine ⟨a :: as, us :: uss, by rw [e1]; rfl, congrArg (· + 1) e2, congrArg (· + 1) e3, fun j c us' h1 h2 => ?_, ?_⟩
      · cases j with
        | zero =>
          simp only [List.getElem?_cons_zero, Option.some.injEq] at h1 h2
          subst h1 h2
          exact q
        | succ j => exact e4 j c us' (by simpa using h1) (by simpa using h2)
      · rw [List.flatten_cons, List.flatten_cons]
        exact RpL.app (l.ice0 (hz ys List.mem_cons_self)) e5
theorem me_sumL {e : Expr} {a : DE} {p lp : Pos} (hc : X.calm = true) (hm : X.mg "sum" = none) (ha : MEs X [e, .List [] lp] (wcons a (wcons (wlst wnil) wnil))) (hg : Gl X "sum" := by rfl) (he : starEach [e, .List [] lp] X.env = (false, eval e X.env) :: starEach [.List [] lp] X.env := by rfl) (hpl : (backTo pos (starEach [.List [] lp] X.env)).any (·.1) = false := by rfl) :
    ME X (.Call (.Name "sum" p) [e, .List [] lp] [] pos) (wsumL a) := ⟨fun {F H M σ ds Q} w0 s0 q => by
  refine to_wE (pe_callB (cr_sumL hc) hg hm (by decide +kernel) (pa_w [e, .List [] lp]) (by decide) (by decide) he hpl) ?_
  refine (ha.run w0 s0 (Q := fun xs s1 => match xs with | [x, y] => y = .lst true [] ∧ ∃ xss : List (List D), lstOf x = some (xss.map (D.lst false)) ∧ (∀ ys ∈ xss, fzL ys = ys) ∧ xss.flatten.length ≤ sizeLine ∧ Q (.lst true xss.flatten) s1 | _ => False) (by
    show a ds fun x s1 => _
    exact (show (a ds fun x s1 => ∃ xss : List (List D), lstOf x = some (xss.map (D.lst false)) ∧ (∀ ys ∈ xss, fzL ys = ys) ∧ xss.flatten.length ≤ sizeLine ∧ Q (.lst true xss.flatten) s1) = (a ds fun x s1 => wcons (wlst wnil) wnil s1 fun xs s2 => match x :: xs with | [x, y] => y = .lst true [] ∧ ∃ xss : List (List D), lstOf x = some (xss.map (D.lst false)) ∧ (∀ ys ∈ xss, fzL ys = ys) ∧ xss.flatten.length ≤ sizeLine ∧ Q (.lst true xss.flatten) s2 | _ => False) from congrArg (a ds) (funext fun x => funext fun s1 => propext ⟨fun h => ⟨rfl, h⟩, fun h => h.2⟩)) ▸ q)).imp fun vs H1 ⟨xs, ds1, F1, N, M1, hv, w1, t1, r1, s1, k1⟩ => ?_
  match xs, k1 with
  | [x, y], ⟨ey, xss, ex, hz, hsz, k1⟩ =>
    subst ey
    cases r1 with
    | @cons _ v1 _ _ A B ra rb =>
    obtain ⟨v2, rfl, rb'⟩ := rb.inv1
    obtain ⟨c, us, _, rfl, q1, l1, _⟩ := ra.seq w1.sub ex
    obtain ⟨as, uss, rfl, e2, e3, e4, e5⟩ := refsL w1.sub l1 hz
    obtain ⟨b, vs2, _, rfl, q2, l2, _⟩ := rb'.seq w1.sub (ds := []) rfl
    cases l2
    have el := e5.len
    refine ⟨c, b, as, uss, rfl, q1, q2, e2, e4, by rw [← el]; exact hsz, fun h0 => ?_, fun h0 p hp => ?_⟩
    · have : xss = [] := List.length_eq_zero_iff.mp (e3 ▸ h0)
      subst this
      have sub : (B ++ M1).Sublist ((A ++ B) ++ M1) := by rw [List.append_assoc]; exact List.sublist_append_right _ _
      exact ⟨.lst true [], ds1, F1, B, M1, w1.part sub, t1.drop fun a h => sub.subset h, rb', s1, k1⟩
    · have wM : Wd F1 H1 M1 := w1.part (List.sublist_append_right _ _)
      obtain ⟨w3, t3, k3⟩ := new_own (o := .lst uss.flatten) wM hp
      exact ⟨.lst true xss.flatten, ds1, F1, [p], M1, w3, (t1.drop fun a h => List.mem_append_right _ h).trans w0 wM t3, .lstO upd_same (e5.mono (fun _ _ h => h) fun a h => nomatch h), s1.mono (fun _ _ h => h) k3, k1⟩⟩
/-! ### displays with stars -/
def ResS (X : Cx) (σ : L2.St) (F H : Hp) (M : List Addr) (Q : List D → DS → Prop) : List V → Hp → Prop := fun v H' => ∃ d ds' F' N M', Wd F' H' (N ++ M') ∧ Tr F H M F' H' (N ++ M') ∧ RpL X.K F' H' d v N ∧ SR X.K F' H' ds' σ M' ∧ Q d ds'
structure MEx (X : Cx) (es : List Expr) (w : DA) : Prop where
  run : ∀ {F H : Hp} {M : List Addr} {σ : L2.St} {ds : DS} {Q : List D → DS → Prop}, Wd F H M → SR X.K F H ds σ M → w ds Q → wA X es σ H (ResS X σ F H M Q)
theorem mex_nil : MEx X [] wnil := ⟨fun {F H M σ ds k} w0 s0 q => to_wA pa_nil (show ResS X σ F H M k [] H from ⟨[], ds, F, [], M, w0, Tr.refl F H M, .nil, s0, q⟩)⟩
theorem mex_cons {e : Expr} {es : List Expr} {o : DE} {os : DA} (h1 : ME X e o) (h2 : MEx X es os) (hs : starEach (e :: es) X.env = (false, eval e X.env) :: starEach es X.env := by rfl) : MEx X (e :: es) (wcons o os) := ⟨fun {F H M σ ds k} w0 s0 q => by
  refine to_wA (pa_cons (pe_w e) (pa_w es) hs) ?_
  refine (h1.run w0 s0 (Q := fun t s1 => _) q).imp fun v H1 ⟨t, ds1, F1, N, M1, w1, t1, r1, s1, k1⟩ => ?_
  refine (h2.run (w1.part (List.sublist_append_right _ _)) s1 k1).imp fun vs H2 ⟨ts, ds2, F2, N2, M2, w2, t2, r2, s2, k2⟩ => ?_
  have n := next w0 w1 t1 w2 t2
  exact ⟨t :: ts, ds2, F2, N ++ N2, M2, n.wd, n.tr, .cons (r1.mono n.up n.same) r2, s2, k2⟩⟩
def seqOf : D → Option (List D)
  | .tup xs => some xs
  | d => lstOf d
def wstar (a : DE) (r : DA) : DA := fun s Q => a s fun x s1 => ∃ xs, seqOf x = some xs ∧ fzL xs = xs ∧ r s1 fun ys s2 => Q (xs ++ ys) s2
theorem mex_star {e : Expr} {es : List Expr} {o : DE} {os : DA} {p : Pos} (h1 : ME X e o) (h2 : MEx X es os) (hs : starEach (.Starred e p :: es) X.env = (true, eval e X.env) :: starEach es X.env := by rfl) : MEx X (.Starred e p :: es) (wstar o os) := ⟨fun {F H M σ ds k} w0 s0 q => by
  refine to_wA (StX.pa_star (pe_w e) (pa_w es) hs) ?_
  refine (h1.run w0 s0 (Q := fun t s1 => _) q).imp fun v H1 ⟨t, ds1, F1, N, M1, w1, t1, r1, s1, xs, ex, fx, k1⟩ => ?_
  have fin : ∀ {a : Addr} {us : List V} {A : List Addr}, RpL X.K F1 H1 xs us A → v = .ref a → (SqT X.K H1 a us ∨ SqL X.K H1 a us) → ∃ p zs, v = V.ref p ∧ (SqT X.K H1 p zs ∨ SqL X.K H1 p zs) ∧ wA X es σ H1 fun ys H2 => ResS X σ F H M k (zs ++ ys) H2 := fun {a us A} l e hq => by
    refine ⟨a, us, e, hq, ?_⟩
    refine (h2.run (w1.part (List.sublist_append_right _ _)) s1 k1).imp fun vs H2 ⟨ts, ds2, F2, N2, M2, w2, t2, r2, s2, k2⟩ => ?_
    have n := next w0 w1 t1 w2 t2
    have sub : (N2 ++ M2).Sublist ((N ++ N2) ++ M2) := by rw [List.append_assoc]; exact List.sublist_append_right _ _
    exact ⟨xs ++ ts, ds2, F2, N2, M2, n.wd.part sub, n.tr.drop fun a h => sub.subset h, RpL.app ((l.ice0 fx).mono n.up fun a h => nomatch h) r2, s2, k2⟩
  cases t with
  | tup ys =>
    cases ex
    obtain ⟨a, us, rfl, q1, l⟩ := r1.tpl w1.sub
    exact fin l rfl (.inl q1)
  | lst o ys =>
    obtain ⟨a, us, _, rfl, q1, l, _⟩ := r1.seq w1.sub (ds := xs) ex
    exact fin l rfl (.inr q1)
  | frl ys =>
    obtain ⟨a, us, _, rfl, q1, l, _⟩ := r1.seq w1.sub (ds := xs) ex
    exact fin l rfl (.inr q1)
  | _ => cases ex⟩
def wlstS (r : DA) : DE := fun s Q => r s fun xs s1 => xs.length ≤ sizeLine ∧ Q (.lst true xs) s1
theorem me_lstS {es : List Expr} {r : DA} (h : MEx X es r) : ME X (.List es pos) (wlstS r) := ⟨fun {F H M σ ds Q} w0 s0 q => by
  refine to_wE (pe_lst (pa_w es)) ?_
  refine (h.run w0 s0 (Q := fun xs s1 => xs.length ≤ sizeLine ∧ Q (.lst true xs) s1) q).imp fun vs H1 ⟨xs, ds1, F1, N, M1, w1, t1, r1, s1, hl, k1⟩ => ?_
  refine ⟨by rw [← r1.len]; exact hl, fun p hp => ?_⟩
  obtain ⟨w2, t2, e2⟩ := new_own (o := .lst vs) w1 hp
  have u2 : ∀ a u, F1 a = some u → F1 a = some u := fun _ _ h => h
  exact ⟨.lst true xs, ds1, _, p :: N, M1, w2, t1.trans w0 w1 t2, .lstO upd_same (r1.mono u2 fun a q => e2 a (List.mem_append_left _ q)), s1.mono u2 fun a q => e2 a (List.mem_append_right _ q), k1⟩⟩
/-! ### defs with a keyword-only parameter -/
def HasK (P : Program) (w : World) (K : PySem.W.Frag) (mg : Str → Option Value) (base : Heap) (k n : Nat) (x kn : Str) (ps : List Str) (W : FW) : Prop :=
  ∃ f fd, FnG P w K mg base k f fd ps (spM K (n + 1) W) ∧ mg x = some (.ref f) ∧ PySem.W.keepIn K (.ref f) = true ∧ Binds K fd ps [.bool false] ∧ KBn K fd ps n [kn] (fun us ws => us ++ ws) (fun vs zs => vs ++ zs)
theorem wargs_snoc {w : DE} : ∀ (as : List AE) (s : DS) (k : List D → Lent → DS → Prop), wargs (as ++ [.V w]) s k = wargs as s fun xs ls s1 => w s1 fun x s2 => k (xs ++ [x]) (ls ++ [none]) s2
  | [], s, k => rfl
  | .V w0 :: r, s, k => by
    show (w0 s fun x s1 => wargs (r ++ [.V w]) s1 _) = (w0 s fun x s1 => wargs r s1 _)
    exact congrArg (w0 s) (funext fun x => funext fun s1 => wargs_snoc r s1 _)
  | .L p :: r, s, k => by
    show (∃ c g, p s = some (c, g) ∧ ∀ v, wargs (r ++ [.V w]) (g (.hole v)) _) = (∃ c g, p s = some (c, g) ∧ ∀ v, wargs r (g (.hole v)) _)
    refine congrArg Exists (funext fun c => congrArg Exists (funext fun g => congrArg (p s = some (c, g) ∧ ·) (forall_congr fun v => ?_)))
    exact wargs_snoc r _ _
theorem LentOk.snoc {K : PySem.W.Frag} : ∀ {ls : Lent} {vs : List V} {v : V}, LentOk K ls vs → LentOk K (ls ++ [none]) (vs ++ [v])
  | _, _, _, .nil => .no .nil
  | _, _, _, .no l => .no l.snoc
  | _, _, _, .yes p l => .yes p l.snoc
theorem run_GN {k n : Nat} {f : Addr} {fd : FuncData} {ps ks : List Str} {sp : Sp} {g : List Value → List Value → List Value} {gV : List V → List V → List V} {pins : List (Addr × Obj)} {σ : L2.St} {H : Hp} {s : Shared} {Q : VK} {us ws : List Value} {vs zs : List V} (F : FnG X.prog X.w X.K X.mg X.base k f fd ps sp) (hr : Room k X.A) (hgd : X.A.guards = some []) (hb : KBn X.K fd ps n ks g gV)
    (I : Inv X pins σ H s) (r : Vals vs us) (rz : Vals zs ws) (l1 : vs.length = n) (l2 : zs.length = ks.length) (h : sp (gV vs zs) H Q E0) : wpAny (model X.prog X.w) X.A (call (.ref f) us (ks.zip ws)) (EP X pins σ Q) X.xe s := by
  have r2 := hb.rel r rz
  refine wpAny_call (codeAny_mono (F.run X.A X.stack s H ⟨us, ks.zip ws⟩ (g us ws) (gV vs zs) Q hr hgd I.env0 (hb.to s us ws I.kIn (r.length.symm.trans l1) (rz.length.symm.trans l2)) r2 h) fun r s' hq => ?_)
  match r with
  | .error e => exact hq.elim
  | .ok (.ret v) => exact Inv.after I hq
  | .ok .next => exact hq.elim
  | .ok .brk => exact hq.elim
  | .ok .cont => exact hq.elim
theorem pe_callGN {k n : Nat} {f : Addr} {fd : FuncData} {ps ks : List Str} {sp : Sp} {g : List Value → List Value → List Value} {gV : List V → List V → List V} {x : Str} {p : Pos} {e : Expr} {es : List Expr} {kws : List Keyword} {t tk : TA} (F : FnG X.prog X.w X.K X.mg X.base k f fd ps sp) (hr : Room k X.A) (hgd : X.A.guards = some []) (hg : Gl X x) (hm : X.mg x = some (.ref f)) (hk : PySem.W.keepIn X.K (.ref f) = true) (hb : KBn X.K fd ps n ks g gV)
    (ha : PA X (e :: es) t) (hkw : PK X kws tk) (hall : (backToKw pos (keywordEach kws X.env)).all (·.1.isSome) = true := by rfl) (hks : (backToKw pos (keywordEach kws X.env)).filterMap (·.1) = ks := by rfl)
    (hdb : (x == ("__debug__" : Str)) = false := by decide) (he : starEach (e :: es) X.env = (false, eval e X.env) :: starEach es X.env := by rfl)
    (hpl : ((backTo pos (starEach (e :: es) X.env)).any (·.1) || (backToKw pos (keywordEach kws X.env)).any (·.1.isNone)) = false := by rfl) :
    PE X (.Call (.Name x p) (e :: es) kws pos) (tCallN n ks.length sp gV E0 t tk) := by
  refine ⟨fun pins s σ H Q I h => ?_⟩
  refine wpAny_Call_Name_kw (ld_glob I hg hm ?_ hdb)
  refine PySem.W.callWith_KW (h₀ := X.base) I.ok.mod.kin hk hall (thn (ha.run pos pins s σ H _ I h) fun us s1 ⟨vs, H1, I1, r, q⟩ => ?_) hpl he
  refine thn (hkw.run pos pins s1 σ H1 _ I1 q) fun ws s2 ⟨zs, H2, I2, rz, l1, l2, q2⟩ => ⟨I2.kIn, ?_⟩
  rw [hks]
  exact run_GN F hr hgd hb I2 r rz l1 l2 q2
theorem call_fin {W : FW} {F H F1 H1 : Hp} {M N M1 : List Addr} {σ : L2.St} {ds1 : DS} {Q : D → DS → Prop} {n : Nat} {xs : List D} {vs : List V} {ls : Lent} (w0 : Wd F H M) (w1 : Wd F1 H1 (N ++ M1)) (t1 : Tr F H M F1 H1 (N ++ M1)) (r1 : RpL X.K F1 H1 xs vs N) (l1 : LentOk X.K ls vs) (s1 : SR X.K F1 H1 ds1 σ M1) (hn : xs.length = n) (k1 : W xs fun d outs => putB ls outs ds1 fun s2 => Q d s2) :
    spM X.K n W vs H1 (Res X σ F H M Q) E0 := by
  refine ⟨F1, N, xs, _, w1.part (List.sublist_append_left _ _), r1, hn, k1, fun v H' F' B B' d outs w' t' r' ro' q' => ?_⟩
  have b := frame w1 t' w'
  have w2 : Wd F' H' (B ++ (B' ++ M1)) := b.wd.perm (by rw [List.append_assoc])
  obtain ⟨ds', M', w3, m3, s3, q3⟩ := put_core l1 ro' w2 (s1.mono t'.up b.same) q'
  refine ⟨d, ds', F', B, M', w3, (t1.trans w0 w1 b.tr).drop fun a h => ?_, r', s3, q3⟩
  rw [List.append_assoc]
  rcases List.mem_append.mp h with h | h
  · exact List.mem_append_left _ h
  · exact List.mem_append_right _ (m3 a h)
/-- f(e, .., name=v) -/
theorem me_callK {k n : Nat} {ps : List Str} {W : FW} {x kn : Str} {p kp : Pos} {e ek : Expr} {es : List Expr} {as : List AE} {wk : DE} (h : HasK X.prog X.w X.K X.mg X.base k n x kn ps W) (hr : Room k X.A) (hgd : X.A.guards = some [])
    (ha : MAs X (e :: es) as) (hk : ME X ek wk) (hn : (e :: es).length = n := by rfl) (hg : Gl X x := by rfl) (hdb : (x == ("__debug__" : Str)) = false := by decide)
    (hall : (backToKw pos (keywordEach [⟨some kn, ek, kp⟩] X.env)).all (·.1.isSome) = true := by rfl) (hks : (backToKw pos (keywordEach [⟨some kn, ek, kp⟩] X.env)).filterMap (·.1) = [kn] := by rfl)
    (he : starEach (e :: es) X.env = (false, eval e X.env) :: starEach es X.env := by rfl) (hpl : ((backTo pos (starEach (e :: es) X.env)).any (·.1) || (backToKw pos (keywordEach [⟨some kn, ek, kp⟩] X.env)).any (·.1.isNone)) = false := by rfl) :
    ME X (.Call (.Name x p) (e :: es) [⟨some kn, ek, kp⟩] pos) (wcall W (as ++ [.V (wfz wk)])) := ⟨fun {F H M σ ds Q} w0 s0 q => by
  obtain ⟨f, fd, Fk, hm, kpp, _, b⟩ := h
  refine to_wE (pe_callGN Fk hr hgd hg hm kpp b (pa_w _) (pk_cons (pe_w ek) pk_nil) hall hks hdb he hpl) ?_
  have q : wargs (as ++ [.V (wfz wk)]) ds fun xs ls s1 => W xs fun d outs => putB ls outs s1 fun s2 => Q d s2 := q
  rw [wargs_snoc] at q
  refine (ha.run w0 s0 q).imp fun vs H1 ⟨xs, ls, ds1, F1, N, M1, hl, w1, t1, r1, l1, s1, k1⟩ => ?_
  refine ((me_fz hk).run (w1.part (List.sublist_append_right _ _)) s1 (Q := fun x s2 => _) k1).imp fun u H2 ⟨y, ds2, F2, N2, M2, w2, t2, r2, s2, k2⟩ => ?_
  have nx := next w0 w1 t1 w2 t2
  refine ⟨hl.trans hn, rfl, ?_⟩
  refine call_fin w0 nx.wd nx.tr (RpL.app (r1.mono nx.up nx.same) (by have := RpL.cons r2 (RpL.nil (K := X.K) (F := F2) (H := H2)); rw [List.append_nil] at this; exact this)) l1.snoc s2 ?_ k2
  rw [List.length_append, r1.len, hl, hn]; rfl⟩
/-- f(e, ..), the keyword-only one lacks: False -/
theorem me_callD {k n : Nat} {ps : List Str} {W : FW} {x kn : Str} {p : Pos} {e : Expr} {es : List Expr} {as : List AE} (h : HasK X.prog X.w X.K X.mg X.base k n x kn ps W) (hr : Room k X.A) (hgd : X.A.guards = some [])
    (ha : MAs X (e :: es) as) (hn : (e :: es).length = n := by rfl) (hg : Gl X x := by rfl) (hdb : (x == ("__debug__" : Str)) = false := by decide)
    (he : starEach (e :: es) X.env = (false, eval e X.env) :: starEach es X.env := by rfl) (hpl : (backTo pos (starEach es X.env)).any (·.1) = false := by rfl) :
    ME X (.Call (.Name x p) (e :: es) [] pos) (wcall W (as ++ [.V (wc (.bl false))])) := ⟨fun {F H M σ ds Q} w0 s0 q => by
  obtain ⟨f, fd, Fk, hm, kpp, b, _⟩ := h
  have pe : PE X (.Call (.Name x p) (e :: es) [] pos) (fun σ H Q => wA X (e :: es) σ H fun vs H1 => spM X.K (n + 1) W (vs ++ [.bl false]) H1 Q E0) := ⟨fun pins s σ H Q I h =>
    wpAny_Call_Name_kw (ld_glob I hg hm (PySem.W.callWith_K I.ok.mod.kin kpp (thn ((pa_w (X := X) (e :: es)).run pos pins s σ H _ I h) fun us s1 ⟨vs, H1, I1, r, q⟩ => ⟨Inv.kIn I1, by
      have r2 : Vals (vs ++ [V.bl false]) (us ++ [Value.bool false]) := r.append (.cons rfl .nil)
      have hl : (us ++ [Value.bool false]).length = ps.length := by rw [← r2.length]; exact Fk.len _ H1 _ q
      refine wpAny_call (codeAny_mono (Fk.run X.A X.stack s1 H1 { pos := us } (us ++ [Value.bool false]) (vs ++ [V.bl false]) Q hr hgd I1.env0 (b s1 us I1.kIn hl) r2 q) fun r s' hq => ?_)
      match r with
      | .error e => exact hq.elim
      | .ok (.ret v) => exact Inv.after I1 hq
      | .ok .next => exact hq.elim
      | .ok .brk => exact hq.elim
      | .ok .cont => exact hq.elim⟩) he hpl) hdb)⟩
  refine to_wE pe ?_
  have q : wargs (as ++ [.V (wc (.bl false))]) ds fun xs ls s1 => W xs fun d outs => putB ls outs s1 fun s2 => Q d s2 := q
  rw [wargs_snoc] at q
  refine (ha.run w0 s0 q).imp fun vs H1 ⟨xs, ls, ds1, F1, N, M1, hl, w1, t1, r1, l1, s1, k1⟩ => ?_
  refine call_fin w0 w1 t1 (by have := RpL.app r1 (RpL.cons (Rp.bl false) (RpL.nil (K := X.K) (F := F1) (H := H1))); simpa using this) l1.snoc s1 ?_ k1
  rw [List.length_append, r1.len, hl, hn]; rfl⟩
end
end M

namespace M
open PySem PySem.Spec PyProof.Rows L2 Z3
section
variable {X : Cx} {pos : Pos} {ro : List Nat}
theorem set_rest {K : PySem.W.Frag} {F H : Hp} {ds : DS} {σ : L2.St} {A B M : List Addr} (w : Wd F H ((A ++ B) ++ M)) (s : SR K F H ds σ M) {i : Nat} (hi : i < ds.length) {d : D} {v : V} (r : Rp K F H d v A) :
    ∃ M', Wd F H (B ++ M') ∧ (∀ a ∈ M', a ∈ A ++ M) ∧ SR K F H (ds.set i d) (σ.set i (some v)) M' := by
  have w1' : Wd F H ((A ++ M) ++ B) := w.perm (by rw [List.append_assoc, List.append_assoc]; exact List.Perm.append_left A List.perm_append_comm)
  obtain ⟨M2, w2, sub2, s2⟩ := set_slot (w1'.part (List.sublist_append_left _ _)) s hi r
  refine ⟨M2, ⟨w.sub, ?_, fun a h => ?_, fun a h => ?_⟩, sub2, s2⟩
  · refine List.nodup_append.mpr ⟨(List.nodup_append.mp w1'.nd).2.1, w2.nd, fun a h b h' e => ?_⟩
    subst e
    exact (List.nodup_append.mp w1'.nd).2.2 a (sub2 a h') a h rfl
  · rcases List.mem_append.mp h with h | h
    · exact w1'.fr a (List.mem_append_right _ h)
    · exact w2.fr a h
  · rcases List.mem_append.mp h with h | h
    · exact w1'.th a (List.mem_append_right _ h)
    · exact w2.th a h
/-- a, b, c = x, y, z with plain local names -/
def wpar3 (i j l : Nat) (as : DA) : DSt := fun E s => as s fun xs s1 => ∃ x y z, xs = [x, y, z] ∧ i < s1.length ∧ j < s1.length ∧ l < s1.length ∧ E.nx (((s1.set i x).set j y).set l z)
theorem ms_par3 {i j l : Nat} {x y z : Str} {a b c : Expr} {as : DA} {px py pz pt : Pos} {kt k2 pt2} (ha : MEs X [a, b, c] as) (hc : X.calm = true) (hN : X.N.Nodup) (hi : X.N[i]? = some x) (hj : X.N[j]? = some y) (hl : X.N[l]? = some z) (hij : i ≠ j) (hil : i ≠ l) (hjl : j ≠ l) (hri : i ∉ ro := by decide) (hrj : j ∉ ro := by decide) (hrl : l ∉ ro := by decide)
    (hx : X.env.scope.names.lookup x = some .local := by rfl) (hy : X.env.scope.names.lookup y = some .local := by rfl) (hz : X.env.scope.names.lookup z = some .local := by rfl)
    (hw : swappedStores [.Tuple [.Name x px, .Name y py, .Name z pz] kt pt] (.Tuple [a, b, c] k2 pt2) X.env = pure (some [x, y, z]) := by rfl)
    (hs : swapsWithSole [.Tuple [.Name x px, .Name y py, .Name z pz] kt pt] (.Tuple [a, b, c] k2 pt2) pos.line X.env = pure false := by rfl) :
    MS X ro (.Assign [.Tuple [.Name x px, .Name y py, .Name z pz] kt pt] (.Tuple [a, b, c] k2 pt2) pos) (wpar3 i j l as) := ⟨fun {F H M σ ds E} w0 s0 q => by
  refine to_wS (ps_par3 hc hN hi hj hl hij hil hjl hx hy hz (pa_w _) hw hs) ?_
  refine (ha.run w0 s0 (Q := fun x s1 => _) q).imp fun vs H1 ⟨xs, ds1, F1, N, M1, hv, w1, t1, r1, s1, d1, d2, d3, e, l1, l2, l3, k1⟩ => ?_
  subst e
  cases r1 with
  | @cons _ v1 _ _ A B ra rb =>
    cases rb with
    | @cons _ v2 _ _ A2 B2 rb rc =>
      obtain ⟨v3, rfl, rc'⟩ := rc.inv1
      refine ⟨v1, v2, v3, rfl, ?_⟩
      obtain ⟨M2, w2, sub2, s2⟩ := set_rest w1 s1 l1 ra
      obtain ⟨M3, w3, sub3, s3⟩ := set_rest w2 s2 (by rw [List.length_set]; exact l2) rb
      obtain ⟨M4, w4, sub4, s4⟩ := set_slot w3 s3 (by rw [List.length_set, List.length_set]; exact l3) rc'
      refine ⟨_, F1, M4, w4, t1.drop fun a h => ?_, s4, ((pin_set hri _).trans (pin_set hrj _)).trans (pin_set hrl _), k1⟩
      have h4 := sub4 a h
      simp only [List.mem_append] at h4 ⊢
      rcases h4 with h | h
      · exact .inl (.inr (.inr h))
      · have h3 := sub3 a h
        simp only [List.mem_append] at h3
        rcases h3 with h | h
        · exact .inl (.inr (.inl h))
        · have h2 := sub2 a h
          simp only [List.mem_append] at h2
          rcases h2 with h | h
          · exact .inl (.inl h)
          · exact .inr h⟩
end
end M

namespace M
open PySem PySem.Spec PyProof.Rows L2 Z3
/-! ### rows of the newer terms -/
section
variable {s : DS} {Q : D → DS → Prop} {Qb : Bool → DS → Prop} {Qa : List D → DS → Prop} {E : DEnds} {a b c : DE} {t u : DT} {r : DA} {d x y z : D} {oa ob oc : Opd} {k : DS → Prop} {xs ys zs : List D}
theorem x_par3 {i j l : Nat} : wpar3 i j l r E s ↔ r s fun xs s1 => ∃ x y z, xs = [x, y, z] ∧ i < s1.length ∧ j < s1.length ∧ l < s1.length ∧ E.nx (((s1.set i x).set j y).set l z) := ⟨id, id⟩
theorem x_lz3 : wlz3 a b c s Q ↔ a s fun x s1 => b s1 fun y s2 => c s2 fun z s3 => ∃ xs ys zs, lstOf x = some xs ∧ lstOf y = some ys ∧ lstOf z = some zs ∧ fzL xs = xs ∧ fzL ys = ys ∧ fzL zs = zs ∧ Q (.lst true (zip3D xs ys zs)) s3 := ⟨id, id⟩
theorem x_lstS : wlstS r s Q ↔ r s fun xs s1 => xs.length ≤ sizeLine ∧ Q (.lst true xs) s1 := ⟨id, id⟩
theorem x_star : wstar a r s Qa ↔ a s fun x s1 => ∃ xs, seqOf x = some xs ∧ fzL xs = xs ∧ r s1 fun ys s2 => Qa (xs ++ ys) s2 := ⟨id, id⟩
theorem x_izip3 {k : List D → DS → Prop} : izip3 a b c s k ↔ a s fun x s1 => b s1 fun y s2 => c s2 fun z s3 => ∃ xs ys zs, x = .tup xs ∧ y = .tup ys ∧ z = .tup zs ∧ fzL xs = xs ∧ fzL ys = ys ∧ fzL zs = zs ∧ xs.length = ys.length ∧ xs.length = zs.length ∧ k (zip3D xs ys zs) s3 := ⟨id, id⟩
theorem x_sumL : wsumL a s Q ↔ a s fun x s1 => ∃ xss : List (List D), lstOf x = some (xss.map (D.lst false)) ∧ (∀ ys ∈ xss, fzL ys = ys) ∧ xss.flatten.length ≤ sizeLine ∧ Q (.lst true xss.flatten) s1 := ⟨id, id⟩
theorem x_tru : ttru a s Qb ↔ a s fun x s1 => ∃ c, truD x = some c ∧ Qb c s1 := ⟨id, id⟩
theorem x_rg2 {k : List D → DS → Prop} : irange2 oa ob s k ↔ evO oa s fun t s1 => evO ob s1 fun u s2 => ∃ i j, t.at s2 = some (.int i) ∧ u.at s2 = some (.int j) ∧ (-(2 ^ 62) ≤ i ∧ i < 2 ^ 62 ∧ -(2 ^ 62) ≤ j ∧ j < 2 ^ 62) ∧ k (rangeD i (j - i).toNat) s2 := ⟨id, id⟩
theorem x_metP {p : PL} {T : String} {o : DM} : wmetP p T o r s Q ↔ ∃ c g, p s = some (c, g) ∧ (tyD T c ∧ ∀ v, r (g (.hole v)) fun xs s1 => ∃ h g', p s1 = some (h, g') ∧ (h = .hole v ∧ o c xs fun z c' => Q z (g' c'))) := ⟨id, id⟩
theorem x_lcV {it : DS → (List D → DS → Prop) → Prop} {g : DG} {e : DE} {vs : List Nat} : wlc it g t e vs s Q ↔ it s fun xs s1 => xs.length ≤ sizeLine ∧ (∀ v ∈ vs, v < s1.length) ∧ wlcL g t e vs (fun ys s2 => Q (.lst true ys) (restore vs s1 s2)) xs [] (unset vs s1) := ⟨id, id⟩
theorem x_yes {k : Bool → DS → Prop} : tyes s k ↔ k true s := ⟨id, id⟩
def iseqD (d : D) (k : List D → DS → Prop) (s1 : DS) : Prop := match d with
  | .tup xs => fzL xs = xs ∧ k xs s1
  | .str z => k (z.cps.toList.map fun c => .str ⟨#[c]⟩) s1
  | d => ∃ xs, lstOf d = some xs ∧ fzL xs = xs ∧ k xs s1
theorem x_iseq {k : List D → DS → Prop} : iseq a s k ↔ a s fun d s1 => iseqD d k s1 := ⟨id, id⟩
theorem is_tup {k : List D → DS → Prop} : iseqD (.tup xs) k s ↔ fzL xs = xs ∧ k xs s := ⟨id, id⟩
theorem is_lst {o : Bool} {k : List D → DS → Prop} : iseqD (.lst o xs) k s ↔ fzL xs = xs ∧ k xs s := ⟨fun ⟨ys, e, h, q⟩ => by cases e; exact ⟨h, q⟩, fun ⟨h, q⟩ => ⟨xs, rfl, h, q⟩⟩
theorem lo_l {o : Bool} : lstOf (.lst o xs) = some xs := rfl
theorem so_l {o : Bool} : seqOf (.lst o xs) = some xs := rfl
theorem so_t : seqOf (.tup xs) = some xs := rfl
theorem tr_int {i : Int} : truD (.int i) = some (i != 0) := rfl
theorem x_clear {R : D → D → Prop} : d_clear (.lst true xs) [] R ↔ R .non (.lst true []) := Iff.rfl
end
/-! ### a comprehension with a test: what its items are -/
theorem lc_any {g : DG} {t : DT} {e : DE} {vs : List Nat} {k : List D → DS → Prop} (I : Nat → DS → Prop) (P : D → Prop) :
    ∀ {xs acc : List D} {i : Nat} {s : DS}, I i s → (∀ (j : Nat) (x : D), xs[j]? = some x → ∀ s, I (i + j) s → ∀ (K1 : D → DS → Prop) (K2 : DS → Prop), (∀ y s3, P y → I (i + j + 1) (unset vs s3) → K1 y s3) → (∀ s2, I (i + j + 1) (unset vs s2) → K2 s2) → g x s fun s1 => t s1 fun c s2 => if c = true then e s2 K1 else K2 s2) →
      (∀ ys s, ys.length ≤ xs.length → (∀ y ∈ ys, P y) → I (i + xs.length) s → k (acc ++ ys) s) → wlcL g t e vs k xs acc s
  | [], acc, i, s, h, _, q => by
    have := q [] s (Nat.le_refl _) (by simp) h
    rw [List.append_nil] at this
    exact this
  | x :: xs, acc, i, s, h, st, q => by
    show g x s fun s1 => t s1 fun c s2 => if c = true then e s2 (fun y s3 => wlcL g t e vs k xs (acc ++ [y]) (unset vs s3)) else wlcL g t e vs k xs acc (unset vs s2)
    refine st 0 x rfl s h _ _ (fun y s3 py i3 => ?_) fun s2 i2 => ?_
    · refine lc_any I P (i := i + 1) i3 (fun j x' hx s' hs K1 K2 h1 h2 => ?_) fun ys s' hl hy hs => ?_
      · refine st (j + 1) x' (by simpa using hx) s' (by rw [show i + (j + 1) = i + 1 + j by omega]; exact hs) K1 K2 (fun y s3 p i3 => h1 y s3 p (by rw [show i + 1 + j + 1 = i + (j + 1) + 1 by omega]; exact i3)) fun s2 i2 => h2 s2 (by rw [show i + 1 + j + 1 = i + (j + 1) + 1 by omega]; exact i2)
      · have := q (y :: ys) s' (by simpa using hl) (by intro z hz; rcases List.mem_cons.mp hz with rfl | hz; exact py; exact hy z hz) (by rw [List.length_cons, show i + (xs.length + 1) = i + 1 + xs.length by omega]; exact hs)
        rw [List.append_assoc]
        exact this
    · refine lc_any I P (i := i + 1) i2 (fun j x' hx s' hs K1 K2 h1 h2 => ?_) fun ys s' hl hy hs => ?_
      · refine st (j + 1) x' (by simpa using hx) s' (by rw [show i + (j + 1) = i + 1 + j by omega]; exact hs) K1 K2 (fun y s3 p i3 => h1 y s3 p (by rw [show i + 1 + j + 1 = i + (j + 1) + 1 by omega]; exact i3)) fun s2 i2 => h2 s2 (by rw [show i + 1 + j + 1 = i + (j + 1) + 1 by omega]; exact i2)
      · exact q ys s' (Nat.le_trans hl (by simp)) hy (by rw [List.length_cons, show i + (xs.length + 1) = i + 1 + xs.length by omega]; exact hs)
/-- a comprehension without a test, its items by a function -/
theorem lc_fun {g : DG} {e : DE} {vs : List Nat} {k : List D → DS → Prop} {s : DS} (f : D → D) {xs : List D} (I : DS → Prop) (h : I s) (st : ∀ (j : Nat) (x : D), xs[j]? = some x → ∀ s, I s → ∀ K : D → DS → Prop, (∀ s3, I (unset vs s3) → K (f x) s3) → g x s fun s1 => e s1 K) (q : ∀ s, I s → k (xs.map f) s) : wlcL g tyes e vs k xs [] s := by
  refine lc_from (fun acc s => I s ∧ acc = (xs.take acc.length).map f) ⟨h, rfl⟩ ?_ ?_
  · rintro j x hx acc s rfl ⟨hI, ha⟩ K hK
    refine st acc.length x hx s hI K fun s3 h3 => hK _ _ ⟨h3, ?_⟩
    rw [List.length_append, List.length_singleton, List.take_add_one, hx, List.map_append]
    show acc ++ [f x] = _ ++ [f x]
    rw [← ha]
  · rintro acc s hl ⟨hI, ha⟩
    rw [hl, List.take_length] at ha
    rw [ha]
    exact q s hI
/-! ### in, of whole numbers -/
theorem eqv_int {i j : Int} : PyData.eqv (.int i) (.int j) = decide (i = j) := by
  simp only [PyData.eqv]
  by_cases h : i = j <;> simp [h]
theorem toPyL_ints : ∀ ns : List Int, toPyL (ns.map D.int) = some (ns.map PyData.int)
  | [] => rfl
  | n :: ns => by
    show (match toPy (.int n) with
    | none => none
    | some p => (toPyL (ns.map D.int)).map (p :: ·)) = _
    rw [toPyL_ints ns]; rfl
theorem shaped_int {i : Int} : SeqAt.shaped (.int i) = true := by simp [SeqAt.shaped, PyData.canLay0, PyData.depth]
theorem lay_ints : ∀ ns : List Int, PyData.canLayAll0 (ns.map PyData.int) = true
  | [] => by simp [PyData.canLayAll0]
  | n :: ns => by simp [PyData.canLayAll0, PyData.canLay0, lay_ints ns]
theorem depth_ints : ∀ ns : List Int, PyData.depthAll (ns.map PyData.int) ≤ 1
  | [] => by simp [PyData.depthAll]
  | n :: ns => by
    have := depth_ints ns
    simp only [List.map_cons, PyData.depthAll, PyData.depth]
    omega
theorem shaped_ints (ns : List Int) : SeqAt.shaped (.list (ns.map .int)) = true := by
  have h1 := lay_ints ns
  have h2 := depth_ints ns
  have h3 : (PyData.list (ns.map .int)).depth ≤ 64 := by
    simp only [PyData.depth]
    omega
  unfold SeqAt.shaped
  rw [decide_eq_true h3, Bool.and_true]
  simp only [PyData.canLay0, h1]
theorem any_ints {i : Int} : ∀ ns : List Int, ((ns.map PyData.int).any fun z => PyData.eqv z (.int i)) = decide (i ∈ ns)
  | [] => by simp
  | n :: ns => by
    rw [List.map_cons, List.any_cons, any_ints ns, eqv_int]
    by_cases h : n = i
    · subst h; simp
    · rw [decide_eq_false h, Bool.false_or]
      by_cases h2 : i ∈ ns
      · rw [decide_eq_true h2, decide_eq_true (List.mem_cons_of_mem _ h2)]
      · rw [decide_eq_false h2, decide_eq_false (fun z => by rcases List.mem_cons.mp z with e | e; exact h e.symm; exact h2 e)]
theorem r_inG {i : Int} {o : Bool} {ns : List Int} {g : Bool → Bool} {Q : D → Prop} : inD g (.int i) (.lst o (ns.map .int)) Q ↔ Q (.bl (g (decide (i ∈ ns)))) := by
  constructor
  · rintro ⟨p, ps, ys, e1, e2, e3, _, _, q⟩
    cases e1
    cases e2
    rw [toPyL_ints] at e3
    cases e3
    rw [any_ints] at q
    exact q
  · intro q
    exact ⟨_, _, _, rfl, rfl, toPyL_ints ns, shaped_int, shaped_ints ns, by rw [any_ints]; exact q⟩
theorem r_in {i : Int} {o : Bool} {ns : List Int} {Q : D → Prop} : o_in (.int i) (.lst o (ns.map .int)) Q ↔ Q (.bl (decide (i ∈ ns))) := r_inG (g := id)
theorem r_nin {i : Int} {o : Bool} {ns : List Int} {Q : D → Prop} : o_nin (.int i) (.lst o (ns.map .int)) Q ↔ Q (.bl (!decide (i ∈ ns))) := r_inG (g := not)
theorem inV_ints {i : Int} : ∀ ns : List Int, inV (.int i) (ns.map V.int) = decide (i ∈ ns)
  | [] => by simp [inV]
  | n :: ns => by
    have ih := inV_ints (i := i) ns
    unfold inV at ih ⊢
    rw [List.map_cons, List.any_cons, ih]
    have ee : eqV (V.int n) (V.int i) = decide (n = i) := by
      show (n == i) = _
      by_cases h : n = i <;> simp [h]
    rw [ee]
    by_cases h : n = i
    · subst h; simp
    · by_cases h2 : i ∈ ns <;> simp [h, h2, Ne.symm h]
theorem r_inT {i : Int} {ns : List Int} {Q : D → Prop} : o_in (.int i) (.tup (ns.map .int)) Q ↔ Q (.bl (decide (i ∈ ns))) := by
  have e : (ns.map D.int).mapM flatD = some (ns.map V.int) := by
    induction ns with
    | nil => rfl
    | cons n ns ih => rw [List.map_cons, List.mapM_cons, ih]; rfl
  constructor
  · rintro ⟨v, vs, e1, e2, q⟩
    cases e1
    rw [e] at e2
    cases e2
    rw [inV_ints] at q
    exact q
  · intro q
    exact ⟨_, _, rfl, e, by rw [inV_ints]; exact q⟩
/-- two ints in the tuple -/
theorem r_inT2 {i a b : Int} {Q : D → Prop} : o_in (.int i) (.tup [.int a, .int b]) Q ↔ Q (.bl (decide (i = a ∨ i = b))) := by
  have := r_inT (i := i) (ns := [a, b]) (Q := Q)
  simp only [List.map_cons, List.map_nil, List.mem_cons, List.not_mem_nil, or_false] at this
  exact this
end M

namespace M
open PySem PySem.Spec PyProof.Rows L2 Z3
/-! ### the dict of a book: three parts -/
def bookX (o : Bool) (a b c : D) : D := .dK o [(.inr "causes", a), (.inr "clashes", b), (.inr "undone", c)]
def PB (d : D) (k : D) (R : D → (D → D) → Prop) : Prop := on d = true ∧ ∃ j, kidIx d k = some j ∧ ∃ xs, kids d = some xs ∧ ∃ c, xs[j]? = some c ∧ on c = true ∧ R c fun c' => setKid d j c'
theorem ex_plB {i : Nat} {k : D} {s : DS} {K : D → (D → DS) → Prop} : (∃ c g, plIx (plN i) (.c k) s = some (c, g) ∧ K c g) ↔ ∃ d, s[i]? = some d ∧ PB d k fun c u => K c fun c' => s.set i (u c') := by
  constructor
  · rintro ⟨c, g, e, q⟩
    unfold plIx at e
    cases e1 : plN i s with
    | none => rw [e1] at e; cases e
    | some dg =>
      obtain ⟨d, g0⟩ := dg
      obtain ⟨h1, h2, rfl⟩ := plN_some e1
      rw [e1] at e
      simp only [Option.bind_some, keyAt] at e
      cases e2 : kidIx d k with
      | none => rw [e2] at e; cases e
      | some j =>
        rw [e2] at e
        simp only [Option.bind_some] at e
        cases e3 : kids d with
        | none => rw [e3] at e; cases e
        | some xs =>
          rw [e3] at e
          simp only [Option.bind_some] at e
          cases e4 : xs[j]? with
          | none => rw [e4] at e; cases e
          | some c0 =>
            rw [e4] at e
            simp only [Option.bind_some] at e
            have ho : on d = true := by cases d <;> first | rfl | exact absurd rfl h2
            refine ⟨d, h1, ho, j, e2, xs, e3, c0, e4, ?_⟩
            cases c0 <;> first
              | (cases e; exact ⟨rfl, q⟩)
              | cases e
  · rintro ⟨d, h1, ho, j, e2, xs, e3, c, e4, hc, q⟩
    refine ⟨c, fun c' => s.set i (setKid d j c'), ?_, q⟩
    unfold plIx
    have e1 : plN i s = some (d, fun c => s.set i c) := by
      unfold plN
      rw [h1]
      cases d <;> first | rfl | cases ho
    rw [e1]
    simp only [Option.bind_some, keyAt, e2, e3, e4]
    cases c <;> first | rfl | cases hc
section
variable {o : Bool} {a b c : D} {R : D → (D → D) → Prop}
theorem pb_causes : PB (bookX o a b c) (.str "causes") R ↔ on a = true ∧ R a fun a' => bookX o a' b c := by
  constructor
  · rintro ⟨_, j, e, xs, e2, d, e3, h, q⟩
    have : j = 0 := by
      have e' : some 0 = some j := e
      cases e'; rfl
    subst this
    cases e2
    cases e3
    exact ⟨h, q⟩
  · rintro ⟨h, q⟩
    exact ⟨rfl, 0, rfl, [a, b, c], rfl, a, rfl, h, q⟩
theorem pb_clashes : PB (bookX o a b c) (.str "clashes") R ↔ on b = true ∧ R b fun b' => bookX o a b' c := by
  constructor
  · rintro ⟨_, j, e, xs, e2, d, e3, h, q⟩
    have : j = 1 := by
      have e' : some 1 = some j := e
      cases e'; rfl
    subst this
    cases e2
    cases e3
    exact ⟨h, q⟩
  · rintro ⟨h, q⟩
    exact ⟨rfl, 1, rfl, [a, b, c], rfl, b, rfl, h, q⟩
theorem pb_undone : PB (bookX o a b c) (.str "undone") R ↔ on c = true ∧ R c fun c' => bookX o a b c' := by
  constructor
  · rintro ⟨_, j, e, xs, e2, d, e3, h, q⟩
    have : j = 2 := by
      have e' : some 2 = some j := e
      cases e'; rfl
    subst this
    cases e2
    cases e3
    exact ⟨h, q⟩
  · rintro ⟨h, q⟩
    exact ⟨rfl, 2, rfl, [a, b, c], rfl, c, rfl, h, q⟩
theorem on_book : on (bookX o a b c) = true := rfl
/-- a part looked up -/
theorem ix_undone {Q : D → Prop} (h : fz c = c) : o_ix (bookX o a b c) (.str "undone") Q ↔ Q c := by
  constructor
  · rintro ⟨k, d, ek, eg, ef, q⟩
    cases ek
    have e : some c = some d := eg
    cases e
    exact q
  · intro q
    exact ⟨_, _, rfl, rfl, h, q⟩
end
/-- a part's part, looked at: it lies as it lay -/
theorem plv_at {i j : Nat} {k : D} {s : DS} {Q : D → DS → Prop} {d c x : D} {n : Int} (hd : s[i]? = some d) (hp : ∀ R : D → (D → D) → Prop, PB d k R ↔ on c = true ∧ R c (fun c' => setKid d ((kidIx d k).getD 0) c')) (hc : ∃ o xs, c = .lst o xs ∧ L2.atI xs n = some x) (hx : on x = true) (hf : fz x = x) (hj : s[j]? = some (.int n)) (hs : s.set i (setKid d ((kidIx d k).getD 0) c) = s) (q : Q x s) : wplv (plIx (plIx (plN i) (.c k)) (.n j)) s Q := by
  obtain ⟨o, xs, rfl, hx2⟩ := hc
  have h0 := (ex_plB (i := i) (k := k) (s := s) (K := fun c g => c = .lst o xs ∧ g (.lst o xs) = s ∧ ∀ c', g c' = s.set i (setKid d ((kidIx d k).getD 0) c'))).mpr ⟨d, hd, (hp _).mpr ⟨rfl, rfl, hs, fun _ => rfl⟩⟩
  obtain ⟨c, g, e1, rfl, e2, e3⟩ := h0
  unfold L2.atI at hx2
  cases e4 : ixN xs.length n with
  | none => rw [e4] at hx2; cases hx2
  | some m =>
    rw [e4] at hx2
    have hx3 : xs[m]? = some x := hx2
    refine ⟨x, fun c' => g (setKid (.lst o xs) m c'), ?_, ?_⟩
    · show (plIx (plN i) (.c k) s).bind _ = _
      rw [e1]
      simp only [Option.bind_some, keyAt, hj]
      have e5 : kidIx (.lst o xs) (.int n) = some m := e4
      rw [e5]
      simp only [Option.bind_some]
      have e6 : kids (.lst o xs) = some xs := rfl
      rw [e6]
      simp only [Option.bind_some, hx3]
      cases x <;> first | rfl | cases hx
    · rw [hf]
      have e7 : setKid (.lst o xs) m x = .lst o xs := by
        show D.lst o (xs.set m x) = _
        congr 1
        apply List.ext_getElem?
        intro q
        by_cases hq : q = m
        · subst hq
          rw [List.getElem?_set_self (List.getElem?_eq_some_iff.mp hx3).1, hx3]
        · rw [List.getElem?_set_ne (Ne.symm hq)]
      show Q x (g (setKid (.lst o xs) m x))
      rw [e7, e2]
      exact q
end M

namespace M
open PySem PySem.Spec PyProof.Rows L2
section
variable {X : Cx} {pos : Pos}
/-- a call whose first argument is a name that the later arguments use too -/
def wcallZ (W : FW) (i : Nat) (as : List AE) : DE := fun s Q => (∃ d0, s[i]? = some d0 ∧ on d0 = true) ∧ wargs as s fun xs ls s1 => ∃ c, s1[i]? = some c ∧ on c = true ∧ ∀ v, W (c :: xs) fun d outs => putB (some (plN i, v) :: ls) outs (s1.set i (.hole v)) fun s2 => Q d s2
theorem argZ {y : Str} {py : Pos} {i : Nat} {es : List Expr} {as : List AE} {Q : List D → Lent → DS → Prop} (hN : X.N[i]? = some y) (hv : Vis X.env.scope y) (hd : (y == ("__debug__" : Str)) = false) (hcd : (y == ("__classdict__" : Str)) = false) (h2 : MAs X es as)
    (hs : starEach (.Name y py :: es) X.env = (false, eval (.Name y py) X.env) :: starEach es X.env) {F H : Hp} {M : List Addr} {σ : L2.St} {ds : DS} (w0 : Wd F H M) (s0 : SR X.K F H ds σ M) {d0 : D} (e0 : ds[i]? = some d0) (o0 : on d0 = true)
    (q : wargs as ds fun xs ls s1 => ∃ c, s1[i]? = some c ∧ on c = true ∧ ∀ v, Q (c :: xs) (some (plN i, v) :: ls) (s1.set i (.hole v))) : wA X (.Name y py :: es) σ H (ResA X σ F H M (es.length + 1) Q) := by
  refine to_wA (pa_cons (pe_w _) (pa_w es) hs) ?_
  obtain ⟨v, _, ev, _, _⟩ := s0.at e0 (on_ne o0)
  refine to_wE (pe_var hN hv hd hcd) ⟨v, ev, ?_⟩
  refine (h2.run w0 s0 q).imp fun vs H2 ⟨ts, ls, ds2, F2, N2, M2, hl, w2, t2, r2, l2, s2, c, ec, oc, k2⟩ => ?_
  have hh := plN_held s2 ec (on_ne oc) ev
  obtain ⟨N1, M1, r1, s1, p1⟩ := hh.hole (w2.part (List.sublist_append_right _ _))
  have pp : (N2 ++ M2).Perm ((N1 ++ N2) ++ M1) := by
    refine (List.Perm.append_left N2 p1).trans ?_
    rw [← List.append_assoc]
    exact List.Perm.append_right M1 List.perm_append_comm
  exact ⟨c :: ts, some (plN i, v) :: ls, _, F2, N1 ++ N2, M1, congrArg (· + 1) hl, w2.perm pp.symm, t2.drop fun a h => pp.mem_iff.mpr h, .cons r1 r2, .yes plN_ok l2, s1, k2 v⟩
theorem me_callZ {k n : Nat} {ps : List Str} {W : FW} {x y : Str} {p py : Pos} {i : Nat} {es : List Expr} {as : List AE} (h : Has X.prog X.w X.K X.mg X.base k n x ps W) (hr : Room k X.A) (hgd : X.A.guards = some [])
    (ha : MAs X es as) (hN : X.N[i]? = some y := by rfl) (hv : Vis X.env.scope y := by first | exact Or.inl rfl | exact Or.inr (Or.inl rfl) | exact Or.inr (Or.inr rfl)) (hn : es.length + 1 = n := by rfl) (hg : Gl X x := by rfl) (hdb : (x == ("__debug__" : Str)) = false := by decide) (hd : (y == ("__debug__" : Str)) = false := by decide) (hcd : (y == ("__classdict__" : Str)) = false := by decide)
    (he : starEach (.Name y py :: es) X.env = (false, eval (.Name y py) X.env) :: starEach es X.env := by rfl) (hpl : (backTo pos (starEach es X.env)).any (·.1) = false := by rfl) : ME X (.Call (.Name x p) (.Name y py :: es) [] pos) (wcallZ W i as) := ⟨fun {F H M σ ds Q} w0 s0 q => by
  obtain ⟨f, fd, Fk, hm, kp, b⟩ := h
  obtain ⟨⟨d0, e0, o0⟩, q⟩ := q
  refine to_wE (pe_callG Fk hr hgd hg hm kp b (pa_w _) hdb he hpl) ?_
  refine (argZ (Q := fun xs ls s1 => W xs fun d outs => putB ls outs s1 fun s2 => Q d s2) hN hv hd hcd ha he w0 s0 e0 o0 q).imp fun vs H1 ⟨xs, ls, ds1, F1, N, M1, hl, w1, t1, r1, l1, s1, k1⟩ => ?_
  exact call_fin w0 w1 t1 r1 l1 s1 (r1.len.trans (hl.trans hn)) k1⟩
theorem x_callZ {W : FW} {i : Nat} {as : List AE} {s : DS} {Q : D → DS → Prop} : wcallZ W i as s Q ↔ (∃ d0, s[i]? = some d0 ∧ on d0 = true) ∧ wargs as s fun xs ls s1 => ∃ c, s1[i]? = some c ∧ on c = true ∧ ∀ v, W (c :: xs) fun d outs => putB (some (plN i, v) :: ls) outs (s1.set i (.hole v)) fun s2 => Q d s2 := ⟨id, id⟩
end
end M

namespace M
open PySem PySem.Spec PyProof.Rows L2 Z3
/-- a comprehension without a test over data made of a list of anything -/
theorem lc_over {α : Type} {g : DG} {e : DE} {vs : List Nat} {k : List D → DS → Prop} {s : DS} (as : List α) (f h : α → D) (I : DS → Prop) (h0 : I s)
    (st : ∀ (j : Nat) (a : α), as[j]? = some a → ∀ s, I s → ∀ K : D → DS → Prop, (∀ s3, I (unset vs s3) → K (h a) s3) → g (f a) s fun s1 => e s1 K) (q : ∀ s, I s → k (as.map h) s) : wlcL g tyes e vs k (as.map f) [] s := by
  refine lc_from (fun acc s => I s ∧ acc = (as.take acc.length).map h) ⟨h0, rfl⟩ ?_ ?_
  · rintro j x hx acc s rfl ⟨hI, ha⟩ K hK
    rw [List.getElem?_map] at hx
    cases e1 : as[acc.length]? with
    | none => rw [e1] at hx; cases hx
    | some a =>
      rw [e1] at hx
      cases hx
      refine st acc.length a e1 s hI K fun s3 h3 => hK _ _ ⟨h3, ?_⟩
      rw [List.length_append, List.length_singleton, List.take_add_one, e1, List.map_append]
      show acc ++ [h a] = _ ++ [h a]
      rw [← ha]
  · rintro acc s hl ⟨hI, ha⟩
    rw [hl, List.length_map, List.take_length] at ha
    rw [ha]
    exact q s hI
def trip {α : Type} (xs ys zs : List α) : List (α × α × α) := z3 (fun a b c => (a, b, c)) xs ys zs
theorem z3_trip {α β : Type} {f : α → α → α → β} : ∀ {xs ys zs : List α}, z3 f xs ys zs = (trip xs ys zs).map fun t => f t.1 t.2.1 t.2.2
  | x :: xs, y :: ys, z :: zs => by
    unfold trip
    simp only [z3, List.map_cons]
    rw [z3_trip (xs := xs)]
    rfl
  | [], _, _ => by simp [z3, trip]
  | _ :: _, [], _ => by simp [z3, trip]
  | _ :: _, _ :: _, [] => by simp [z3, trip]
theorem z3_maps {α β γ : Type} {f : β → β → β → γ} {g : α → β} : ∀ {xs ys zs : List α}, z3 f (xs.map g) (ys.map g) (zs.map g) = z3 (fun a b c => f (g a) (g b) (g c)) xs ys zs
  | x :: xs, y :: ys, z :: zs => by
    simp only [z3, List.map_cons]
    rw [z3_maps (xs := xs)]
  | [], _, _ => by simp [z3]
  | _ :: _, [], _ => by simp [z3]
  | _ :: _, _ :: _, [] => by simp [z3]
theorem zip3_map {α : Type} {g : α → D} {xs ys zs : List α} : zip3D (xs.map g) (ys.map g) (zs.map g) = (trip xs ys zs).map fun t => D.tup [g t.1, g t.2.1, g t.2.2] := by
  unfold zip3D
  rw [z3_maps, z3_trip]
theorem trip_mem {α : Type} {t : α × α × α} : ∀ {xs ys zs : List α}, t ∈ trip xs ys zs → t.1 ∈ xs ∧ t.2.1 ∈ ys ∧ t.2.2 ∈ zs
  | x :: xs, y :: ys, z :: zs, h => by
    unfold trip at h
    simp only [z3] at h
    rcases List.mem_cons.mp h with rfl | h
    · exact ⟨List.mem_cons_self, List.mem_cons_self, List.mem_cons_self⟩
    · obtain ⟨h1, h2, h3⟩ := trip_mem (xs := xs) h
      exact ⟨List.mem_cons_of_mem _ h1, List.mem_cons_of_mem _ h2, List.mem_cons_of_mem _ h3⟩
  | [], _, _, h => by simp [trip, z3] at h
  | _ :: _, [], _, h => by simp [trip, z3] at h
  | _ :: _, _ :: _, [], h => by simp [trip, z3] at h
theorem trip_len {α : Type} {xs ys zs : List α} : (trip xs ys zs).length = min (min xs.length ys.length) zs.length := z3_len
theorem trip_get {α : Type} : ∀ {j : Nat} {xs ys zs : List α} {a b c : α}, xs[j]? = some a → ys[j]? = some b → zs[j]? = some c → (trip xs ys zs)[j]? = some (a, b, c)
  | _, [], _, _, _, _, _, h, _, _ => by simp at h
  | _, _ :: _, [], _, _, _, _, _, h, _ => by simp at h
  | _, _ :: _, _ :: _, [], _, _, _, _, _, h => by simp at h
  | 0, x :: xs, y :: ys, z :: zs, a, b, c, h1, h2, h3 => by
    simp only [List.getElem?_cons_zero, Option.some.injEq] at h1 h2 h3
    subst h1 h2 h3
    rfl
  | j + 1, x :: xs, y :: ys, z :: zs, a, b, c, h1, h2, h3 => trip_get (xs := xs) (by simpa using h1) (by simpa using h2) (by simpa using h3)
theorem cut_init {xs : List D} (h : xs ≠ []) : M.cutD xs none (some (-1)) = xs.dropLast := by
  unfold M.cutD HT.sIx
  have : 0 < xs.length := List.length_pos_iff.mpr h
  simp only [List.drop_zero, Nat.sub_zero]
  rw [List.dropLast_eq_take, List.take_eq_take_iff]
  split <;> omega
theorem cut_tail {xs : List D} : M.cutD xs (some 1) none = xs.tail := by
  rw [cut_from (by decide), List.drop_one.symm]
  rfl
end M

namespace M
open PySem PySem.Spec PyProof.Rows L2
/-! ### how a def with one keyword-only parameter (not given: False) binds -/
section
variable {K : PySem.W.Frag} {x qual kn : Str} {st : Stmt} {f D : Addr} {oc doc pm cdv ct : Value} {od an : Option Addr} {osl : Array (Option Value)} {ps : List Str} {n : Nat}
theorem funD_mk (l : K.lookup f = some ⟨oc, od, .func (PySem.W.fnOf x qual (defArgs st) (defBody st) (defScope st) .none (.ref D) doc pm an cdv ct), osl⟩) (c : PySem.W.codeIn K cdv qual = true) (k : PySem.W.keepIn K (.ref f) = true) (w : PySem.W.nsIn K D kn = some (some (.bool false))) :
    FunD K x qual (defArgs st) (defBody st) (defScope st) [] [(kn, .bl false)] f (PySem.W.fnOf x qual (defArgs st) (defBody st) (defScope st) .none (.ref D) doc pm an cdv ct) :=
  ⟨⟨oc, od, .none, .ref D, doc, pm, an, cdv, ct, osl, rfl, l, c, .inl ⟨rfl, rfl⟩, .inr ⟨D, rfl, fun q hq => by
    rw [List.mem_singleton.mp hq]
    exact ⟨_, w, rfl⟩⟩⟩, k⟩
theorem kw_binds {params : Arguments} {body : List Stmt} {scope : Scope} {fd : FuncData} (F : FunD K x qual params body scope [] [(kn, .bl false)] f fd) (hn : n + 1 = ps.length)
    (h : ∀ (D : Addr) (doc pm : Value) (an : Option Addr) (cdv ct : Value) (us : List Value) (v : Value), us.length = n → KwChain D [(kn, v)] (bindArgs (PySem.W.fnOf x qual params body scope .none (.ref D) doc pm an cdv ct) ⟨us, []⟩) (ps.zip (us ++ [v]))) : Binds K fd ps [.bool false] := by
  obtain ⟨ds, r, b⟩ := F.binds0 (ps := ps) n (by simp) hn fun D doc pm an cdv ct us ks hl hk => match ks, hk with | [v], _ => h D doc pm an cdv ct us v hl
  have e : ds = [.bool false] := by
    cases r with
    | cons rv rn =>
      cases rn
      cases rv
      rfl
  rw [← e]
  exact b
theorem kw_kbn {fd : FuncData} (h : ∀ (us : List Value) (v : Value), us.length = n → bindArgs fd ⟨us, [(kn, v)]⟩ = pure (ps.zip (us ++ [v]))) : KBn K fd ps n [kn] (fun us ws => us ++ ws) (fun vs zs => vs ++ zs) :=
  ⟨fun s us ws X l1 l2 => match ws, l2 with | [v], _ => .of_eq (h us v l1), fun r1 r2 => r1.append r2⟩
end
end M

namespace M
open PySem PySem.Spec PyProof.Rows L2
section
variable {X : Cx} {pos : Pos} {ro : List Nat}
/-- a, b, .. = a list of that length -/
def glst (n : Nat) (g : DGs) : DG := fun d s Q => ∃ xs, lstOf d = some xs ∧ fzL xs = xs ∧ xs.length = n ∧ g xs s Q
theorem mg_lst {es : List Expr} {k n : Nat} {g : DGs} (hc : X.calm = true) (h : MGs X ro es g) (hn : (assignEach es X.env).length = n := by rfl) (hst : (assignEach es X.env).findIdx? (·.1) = none := by rfl) : MG X ro (.Tuple es k pos) (glst n g) :=
  ⟨fun {F H M N σ ds d v Q} w0 r0 s0 q => by
    obtain ⟨xs, e, ef, hl, q⟩ := q
    obtain ⟨a, vs, _, rfl, q1, l1, _⟩ := r0.seq w0.sub e
    have w1 : Wd F H M := w0.part (List.sublist_append_right _ _)
    obtain ⟨t, ht, q2⟩ := h.run (N := []) w1 (l1.ice0 ef) s0 q
    refine wG.imp (to_wG (pg_lst hc (PGs.post (k := AtS X ro σ F H M Q) ht) hn hst) ⟨a, vs, rfl, q1, by rw [← l1.len]; exact hl, q2, fun _ _ h => h⟩) fun σ1 H1 hh => hh.step w0 w1 ((Tr.refl F H (N ++ M)).drop fun a h => List.mem_append_right _ h) (Pin.refl ro σ)⟩
theorem x_glst {n : Nat} {gs : DGs} {d : D} {s : DS} {k : DS → Prop} : glst n gs d s k ↔ ∃ xs, lstOf d = some xs ∧ fzL xs = xs ∧ xs.length = n ∧ gs xs s k := ⟨id, id⟩
end
end M

namespace M
open PySem PySem.Spec PyProof.Rows L2 Z3
/-- a comprehension with a test, over data made of a list of anything: its items exactly -/
theorem lc_filter {α : Type} {g : DG} {t : DT} {e : DE} {vs : List Nat} {k : List D → DS → Prop} (f h : α → D) (p : α → Bool) (I : DS → Prop) :
    ∀ (as : List α) {acc : List D} {s : DS}, I s →
      (∀ a ∈ as, ∀ s, I s → ∀ (K1 : D → DS → Prop) (K2 : DS → Prop), (p a = true → ∀ s3, I (unset vs s3) → K1 (h a) s3) → (p a = false → ∀ s2, I (unset vs s2) → K2 s2) → g (f a) s fun s1 => t s1 fun c s2 => if c = true then e s2 K1 else K2 s2) →
      (∀ s, I s → k (acc ++ (as.filter p).map h) s) → wlcL g t e vs k (as.map f) acc s
  | [], acc, s, h0, _, q => by
    have := q s h0
    simp only [List.filter_nil, List.map_nil, List.append_nil] at this
    exact this
  | a :: as, acc, s, h0, st, q => by
    show g (f a) s fun s1 => t s1 fun c s2 => if c = true then e s2 (fun y s3 => wlcL g t e vs k (as.map f) (acc ++ [y]) (unset vs s3)) else wlcL g t e vs k (as.map f) acc (unset vs s2)
    refine st a List.mem_cons_self s h0 _ _ (fun hp s3 h3 => ?_) fun hp s2 h2 => ?_
    · refine lc_filter f h p I as h3 (fun b hb => st b (List.mem_cons_of_mem _ hb)) fun s' h' => ?_
      have := q s' h'
      rw [List.filter_cons_of_pos hp, List.map_cons] at this
      rw [List.append_assoc]
      exact this
    · refine lc_filter f h p I as h2 (fun b hb => st b (List.mem_cons_of_mem _ hb)) fun s' h' => ?_
      have := q s' h'
      rw [List.filter_cons_of_neg (by rw [hp]; decide)] at this
      exact this
def izipD (d d' : D) (k : List D → DS → Prop) (s2 : DS) : Prop := match d, d' with
  | .tup xs, .tup ys => fzL xs = xs ∧ fzL ys = ys ∧ k (zipD xs ys) s2
  | d, d' => ∃ xs ys, lstOf d = some xs ∧ lstOf d' = some ys ∧ fzL xs = xs ∧ fzL ys = ys ∧ k (zipD xs ys) s2
theorem x_izip {a b : DE} {s : DS} {k : List D → DS → Prop} : izip a b s k ↔ a s fun d s1 => b s1 fun d' s2 => izipD d d' k s2 := ⟨id, id⟩
theorem iz_tup {xs ys : List D} {s : DS} {k : List D → DS → Prop} : izipD (.tup xs) (.tup ys) k s ↔ fzL xs = xs ∧ fzL ys = ys ∧ k (zipD xs ys) s := ⟨id, id⟩
theorem iz_lst {o o' : Bool} {xs ys : List D} {s : DS} {k : List D → DS → Prop} : izipD (.lst o xs) (.lst o' ys) k s ↔ fzL xs = xs ∧ fzL ys = ys ∧ k (zipD xs ys) s := ⟨fun ⟨xs', ys', e1, e2, h⟩ => by cases e1; cases e2; exact h, fun h => ⟨xs, ys, rfl, rfl, h⟩⟩
theorem zipD_map {α β : Type} {f : α → D} {g : β → D} : ∀ {xs : List α} {ys : List β}, zipD (xs.map f) (ys.map g) = (xs.zip ys).map fun t => D.tup [f t.1, g t.2]
  | [], _ => by simp [zipD]
  | _ :: _, [] => by simp [zipD]
  | x :: xs, y :: ys => by
    have ih := zipD_map (f := f) (g := g) (xs := xs) (ys := ys)
    simp only [zipD, List.map_cons, List.zip_cons_cons, List.zipWith_cons_cons] at ih ⊢
    first | rw [ih] | simp [ih]
end M

namespace Z3
open PySem PySem.Spec PyProof.Rows L2
/-- a tuple and a list side by side, at each turn -/
def ItzM (K : PySem.W.Frag) (a b : Addr) : It :=
  ⟨fun i H => ∃ (xs ys : List V) (x y : V), SqT K H a xs ∧ SqL K H b ys ∧ xs[i]? = some x ∧ ys[i]? = some y,
    fun i H v H' => ∃ T x y, v = .ref T ∧ H T = none ∧ H' = upd H T (.tup [x, y]) ∧ (∀ xs, SqT K H a xs → xs[i]? = some x) ∧ ∀ ys, SqL K H b ys → ys[i]? = some y,
    fun i H => ∃ xs ys : List V, SqT K H a xs ∧ SqL K H b ys ∧ (xs.length = i ∨ ys.length = i) ∧ i ≤ xs.length ∧ i ≤ ys.length⟩
theorem turn_zipM {P : Program} {w : World} {K : PySem.W.Frag} {elts : List Expr} {kk : Nat} {tpos : Pos} {a b z TI TO i1 i2 : Addr} (D : ZipSep2 z TI TO i1 i2 [i1, a] [i2, b]) (n1 : a ≠ i1) (n2 : b ≠ i2) :
    Turn P w K (.Tuple elts kk tpos) (ItzM K a b) [z, TI, TO, i1, i2] z (fun i h => IsZip h z TI TO .none ∧ IsTupOf2 h TI (.ref i1) (.ref i2) ∧ (∃ x y, IsTupOf2 h TO x y) ∧ h.IsTupleIter i1 a i ∧ h.IsListIter i2 b i) where
  mem := by simp
  obj := fun i h st q hq => by
    obtain ⟨hz, hTI, ⟨x, y, hTO⟩, ⟨o1, e1, _, d1⟩, ⟨o2, e2, _, d2⟩⟩ := st
    have e' : q = z ∨ q = TI ∨ q = TO ∨ q = i1 ∨ q = i2 := by simpa using hq
    rcases e' with r | r | r | r | r
    · rw [r]; exact ⟨_, hz, fun v q => nomatch q⟩
    · rw [r]; exact ⟨_, hTI, fun v q => nomatch q⟩
    · rw [r]; exact ⟨_, hTO, fun v q => nomatch q⟩
    · rw [r]; exact ⟨o1, e1, fun v q => by rw [d1] at q; cases q⟩
    · rw [r]; exact ⟨o2, e2, fun v q => by rw [d2] at q; cases q⟩
  keep := fun i h h' st k => by
    obtain ⟨hz, hTI, ⟨x, y, hTO⟩, h1, h2⟩ := st
    exact ⟨k z (by simp) _ hz, k TI (by simp) _ hTI, ⟨x, y, k TO (by simp) _ hTO⟩, h1.at fun o q => k i1 (by simp) o q, h2.at fun o q => k i2 (by simp) o q⟩
  item := by
    intro X hP hw hK hc i pins s σ H E I hf st hg
    subst hP hw hK
    obtain ⟨hz, hTI, ⟨x0, y0, hTO⟩, h1, h2⟩ := st
    obtain ⟨xs, ys, x, y, hqx, hqy, hx, hy⟩ := hg
    obtain ⟨its, rv, p, _⟩ := I.tuple hqx
    obtain ⟨its2, rv2, p2, _⟩ := I.list hqy
    obtain ⟨u, hu, ru⟩ := rv.get hx
    obtain ⟨u2, hu2, ru2⟩ := rv2.get hy
    have hzl : z < s.heap.objs.size := Heap.lt_size hz
    have len : ∀ {l : List Value} {v : Value}, l[i]? = some v → i < l.toArray.size := fun e => by rw [List.size_toArray]; exact (List.getElem?_eq_some_iff.mp e).1
    refine wpAny_pyNext_zipD2_item D (Draws.tuple (A := X.A.in1) (I.ok.hd hc) i1 a n1 its.toArray) (Draws.list (A := X.A.in1) (I.ok.hd hc) i2 b n2 its2.toArray) hz hTI hTO ⟨h1, p⟩ ⟨h2, p2.isList⟩ (len hu) (len hu2) fun v1 v2 h' tk y1 y2 b1 b2 d1 d2 b5 b6 hk => ?_
    have ev : v1 = u := by
      have : its[i]? = some v1 := by simpa using y1
      rw [hu] at this; cases this; rfl
    have ev2 : v2 = u2 := by
      have : its2[i]? = some v2 := by simpa using y2
      rw [hu2] at this; cases this; rfl
    subst ev ev2
    refine ⟨_, rfl, wpAny_letOwnedTupleGo_zip (s := { s with heap := h', toks := tk }) b1 fun h'' z'' sb => ?_⟩
    have hT2 : h''.get? s.heap.objs.size = some { cls := .type "tuple", data := .seq #[v1, v2] } := (sb.2 _ (Nat.ne_of_gt hzl)).trans b5
    have new : ObjOk X.prog X.w (upd H s.heap.objs.size (.tup [x, y])) h'' s.heap.objs.size (.tup [x, y]) :=
      ⟨by show 2 ≤ sizeLine; decide, [v1, v2], .cons ru (.cons ru2 .nil), ⟨_, hT2, rfl, _, rfl⟩⟩
    have I1 : Inv X pins σ (upd H s.heap.objs.size (.tup [x, y])) { s with heap := h'', toks := tk } :=
      I.turnedNew (t' := tk) (ch := [z, TI, TO, i1, i2]) (fun q o hb e => (sb.2 q (fun q' => hb (by simp [q']))).trans (hk q o (fun q' => hb (by simp [q'])) (fun q' => hb (by simp [q'])) (fun q' => hb (by simp [q'])) (fun q' => hb (by simp [q'])) e)) hf (Nat.le_refl _) new
    refine ⟨.ref s.heap.objs.size, _, I1, rfl, ⟨_, x, y, rfl, I.hok.fresh (Nat.le_refl _), rfl, fun l hl => by rw [I.tuple_inj hl hqx]; exact hx, fun l hl => by rw [I.list_inj hl hqy]; exact hy⟩, ⟨z'', ?_, ⟨v1, v2, ?_⟩, ?_, ?_⟩, fun q hcm => ?_⟩
    · exact (sb.2 _ D.TIz).trans (hk _ _ D.TIz D.TITO D.TIi1 D.TIi2 hTI)
    · exact (sb.2 _ D.TOz).trans b2
    · exact d1.1.at fun o q => (sb.2 _ (Ne.symm D.zi1)).trans q
    · exact d2.1.at fun o q => (sb.2 _ (Ne.symm D.zi2)).trans q
    · have hlt : q < s.heap.objs.size := by
        have e' : q = z ∨ q = TI ∨ q = TO ∨ q = i1 ∨ q = i2 := by simpa using hcm
        rcases e' with q | q | q | q | q
        · rw [q]; exact hzl
        · rw [q]; exact Heap.lt_size hTI
        · rw [q]; exact Heap.lt_size hTO
        · rw [q]; obtain ⟨_, e1, _⟩ := h1; exact Heap.lt_size e1
        · rw [q]; obtain ⟨_, e2, _⟩ := h2; exact Heap.lt_size e2
      rw [upd_ne (Nat.ne_of_lt hlt)]
      exact (hf q hcm).1
  done := by
    intro X hP hw hK hc i pins s σ H E I hf st hg
    subst hP hw hK
    obtain ⟨hz, hTI, ⟨x0, y0, hTO⟩, h1, h2⟩ := st
    obtain ⟨xs, ys, hqx, hqy, hend, le1, le2⟩ := hg
    obtain ⟨its, rv, p, _⟩ := I.tuple hqx
    obtain ⟨its2, rv2, p2, _⟩ := I.list hqy
    have l1 := rv.length
    have l2 := rv2.length
    have s1 : its.toArray.size = its.length := List.size_toArray
    have s2 : its2.toArray.size = its2.length := List.size_toArray
    exact wpAny_pyNext_zipD2_end D (Draws.tuple (A := X.A.in1) (I.ok.hd hc) i1 a n1 its.toArray) (Draws.list (A := X.A.in1) (I.ok.hd hc) i2 b n2 its2.toArray) hz hTI hTO ⟨h1, p⟩ ⟨h2, p2.isList⟩ (by omega) (by omega) (by omega) fun h' tk hk => ⟨rfl, I.turnedL (t' := tk) (ch := [z, TI, TO, i1, i2]) (fun q o hb e =>
      hk q o (fun q' => hb (by simp [q'])) (fun q' => hb (by simp [q'])) (fun q' => hb (by simp [q'])) (fun q' => hb (by simp [q'])) e) hf⟩
  self := fun A i s Q E st h => wpAny_pyIter_zip st.1 h
def iZipM (K : PySem.W.Frag) (ta : TA) : TI := fun σ H R => ta σ H fun vs H1 => ∃ a b xs ys, vs = [.ref a, .ref b] ∧ SqT K H1 a xs ∧ SqL K H1 b ys ∧ R (ItzM K a b) H1
theorem sep_of2 {N : Nat} {a b : Addr} (h1 : a < N) (h2 : b < N) : ZipSep2 (N + 4) (N + 2) (N + 3) N (N + 1) [N, a] [N + 1, b] :=
  zip_sep2 (fp1 := [a]) (fp2 := [b]) (by intro q h; simp at h; rw [h]; exact h1) (by intro q h; simp at h; rw [h]; exact h2)
theorem pi_zipM {X : Cx} {e e2 : Expr} {ta : TA} {p pos tpos : Pos} {elts : List Expr} {kk : Nat} (hg : Gl X "zip") (hm : X.mg "zip" = none) (ha : PA X [e, e2] ta)
    (hs : starEach [e, e2] X.env = (false, eval e X.env) :: starEach [e2] X.env := by rfl) (hpl : (backTo pos (starEach [e2] X.env)).any (·.1) = false := by rfl) :
    PI X (.Tuple elts kk tpos) (.Call (.Name "zip" p) [e, e2] [] pos) (iZipM X.K ta) := by
  refine ⟨fun pins s σ H R I h => ?_⟩
  refine Call_ (ld_blt I hg hm PyProof.Rows.boot_zip (PyProof.Rows.callWith_type1 (thn (ha.run pos pins s σ H _ I h) fun us s1 ⟨vs, H1, I1, r1, q1⟩ => ?_) hs hpl))
  obtain ⟨a, b, xs, ys, ex, hqx, hqy, q⟩ := q1
  subst ex
  cases r1 with
  | cons r rr =>
    cases rr with
    | cons r' rr =>
      cases rr
      cases r
      cases r'
      have fresh : ∀ d, d ∈ [s1.heap.objs.size + 4, s1.heap.objs.size + 2, s1.heap.objs.size + 3, s1.heap.objs.size, s1.heap.objs.size + 1] → FpOk X pins H1 d := fun d hd => by
        have hle : s1.heap.objs.size ≤ d := by
          simp only [List.mem_cons, List.not_mem_nil, or_false] at hd
          rcases hd with z | z | z | z | z
          · rw [z]; exact Nat.le_add_right _ _
          · rw [z]; exact Nat.le_add_right _ _
          · rw [z]; exact Nat.le_add_right _ _
          · rw [z]; exact Nat.le_refl _
          · rw [z]; exact Nat.le_add_right _ _
        exact I1.fpOk hle (I1.hok.fresh hle)
      obtain ⟨its, rv, p1, _⟩ := I1.tuple hqx
      obtain ⟨its2, rv2, p2, _⟩ := I1.list hqy
      have la : a < s1.heap.objs.size := p1.lt
      have lb : b < s1.heap.objs.size := by obtain ⟨_, e, _⟩ := p2.isList; exact Heap.lt_size e
      refine zip_begins2 (begins_tuple a its.toArray) (begins_list b its2.toArray) p1 p2.isList fun h' hz hTI hTO g1 g2 hsz hk => wpAny_pyIter_zip hz ?_
      have I2 : Inv X pins σ H1 { s1 with heap := h' } := I1.kept (t' := s1.toks) hk
      exact ⟨s1.heap.objs.size + 4, [s1.heap.objs.size + 4, s1.heap.objs.size + 2, s1.heap.objs.size + 3, s1.heap.objs.size, s1.heap.objs.size + 1], _, _, H1, rfl, I2, turn_zipM (sep_of2 la lb) (Nat.ne_of_lt la) (Nat.ne_of_lt (Nat.lt_succ_of_lt lb)), ⟨hz, hTI, ⟨_, _, hTO⟩, ⟨_, g1, rfl, rfl⟩, ⟨_, g2, rfl, rfl⟩⟩, fresh, q⟩
end Z3
namespace M
open PySem PySem.Spec PyProof.Rows L2 Z3
section
variable {X : Cx} {pos : Pos}
theorem walks_zipM {a b : Addr} {o : D} {ds es : List D} {N N' : List Addr} (f0 : fzL ds = ds) (e0 : lstOf o = some es) (f1 : fzL es = es) :
    Walks X (ItzM X.K a b) (fun F H => Rp X.K F H (.tup ds) (.ref a) N ∧ Rp X.K F H o (.ref b) N') (zipD ds es) where
  go := fun {F H i} w p hi => by
    obtain ⟨_, vs, eb, q, l⟩ := p.1.tpl w
    cases eb
    obtain ⟨_, us, _, eb, q', l', _⟩ := p.2.seq w e0
    cases eb
    have h1 := l.len
    have h2 := l'.len
    unfold zipD at hi
    rw [List.length_zipWith] at hi
    exact ⟨vs, us, vs[i], us[i], q, q', List.getElem?_eq_getElem (by omega), List.getElem?_eq_getElem (by omega)⟩
  stop := fun {F H} w p => by
    obtain ⟨_, vs, eb, q, l⟩ := p.1.tpl w
    cases eb
    obtain ⟨_, us, _, eb, q', l', _⟩ := p.2.seq w e0
    cases eb
    have h1 := l.len
    have h2 := l'.len
    unfold zipD
    rw [List.length_zipWith]
    exact ⟨vs, us, q, q', by omega, by omega, by omega⟩
  item := fun {F H H' M i x dd} w p y ed => by
    obtain ⟨_, vs, eb, q, l⟩ := p.1.tpl w.sub
    cases eb
    obtain ⟨_, us, _, eb, q', l', _⟩ := p.2.seq w.sub e0
    cases eb
    obtain ⟨T, z, z', rfl, hT, rfl, hx, hx'⟩ := y
    obtain ⟨a', b', e1, e2, rfl⟩ := zipD_at ed
    exact made_pair w hT (.cons (M := []) (N := []) ((l.ice0 f0).at0 e1 (hx vs q)) (.cons (M := []) (N := []) ((l'.ice0 f1).at0 e2 (hx' us q')) .nil))
/-- zip(tuple, list) -/
def izipM (a b : DE) : DS → (List D → DS → Prop) → Prop := fun s k => a s fun d s1 => b s1 fun d' s2 => ∃ xs ys, d = .tup xs ∧ lstOf d' = some ys ∧ fzL xs = xs ∧ fzL ys = ys ∧ k (zipD xs ys) s2
theorem mi_zipM {elts : List Expr} {kk : Nat} {tpos p : Pos} {e e' : Expr} {a a' : DE} (hm : X.mg "zip" = none) (h : MEs X [e, e'] (wcons a (wcons a' wnil))) (hg : Gl X "zip" := by rfl) (hs : starEach [e, e'] X.env = (false, eval e X.env) :: starEach [e'] X.env := by rfl) (hpl : (backTo pos (starEach [e'] X.env)).any (·.1) = false := by rfl) :
    MI X (.Tuple elts kk tpos) (.Call (.Name "zip" p) [e, e'] [] pos) (izipM a a') := ⟨_, pi_zipM hg hm (pa_w [e, e']) hs hpl, fun {F H M σ ds k} w0 s0 q => by
  refine (h.run w0 s0 (Q := fun xs s2 => match xs with | [d, d'] => ∃ xs ys, d = .tup xs ∧ lstOf d' = some ys ∧ fzL xs = xs ∧ fzL ys = ys ∧ k (zipD xs ys) s2 | _ => False) q).imp fun vs H1 ⟨xs, ds1, F1, N, M1, hv, w1, t1, r1, s1, k1⟩ => ?_
  match xs, k1 with
  | [d, d'], k1 =>
    obtain ⟨xs, ys, rfl, e0, f0, f1, k1⟩ := k1
    cases r1 with
    | @cons _ v1 _ _ A B ra rb =>
    obtain ⟨v2, rfl, rb'⟩ := rb.inv1
    obtain ⟨c, us, rfl, q1, l⟩ := ra.tpl w1.sub
    obtain ⟨c', us', _, rfl, q2, l', _⟩ := rb'.seq w1.sub e0
    have L : Lies (A ++ B) (fun F H => Rp X.K F H (.tup xs) (.ref c) A ∧ Rp X.K F H d' (.ref c') B) := fun {_ _ _ _} up k p => ⟨p.1.mono up fun a h => k a (List.mem_append_left _ h), p.2.mono up fun a h => k a (List.mem_append_right _ h)⟩
    exact ⟨c, c', us, us', rfl, q1, q2, _, ds1, F1, A ++ B, M1, _, w1, t1, s1, ⟨ra, rb'⟩, walks_zipM f0 e0 f1, L, k1⟩⟩
theorem x_izipM {a b : DE} {s : DS} {k : List D → DS → Prop} : izipM a b s k ↔ a s fun d s1 => b s1 fun d' s2 => ∃ xs ys, d = .tup xs ∧ lstOf d' = some ys ∧ fzL xs = xs ∧ fzL ys = ys ∧ k (zipD xs ys) s2 := ⟨id, id⟩
end
end M

namespace M
open PySem PySem.Spec PyProof.Rows L2
section
variable {X : Cx} {pos : Pos}
def CPowW (i j : Int) : Prop := 0 ≤ j ∧ (Builtin.Int.intBits i : Int) * j ≤ 2 ^ 27
theorem op_powW : OpR X (binaryOp .Pow) (rI CPowW fun i j => .int (i ^ j.toNat)) := opI fun _ _ _ _ _ _ _ hc q => pow_int hc.1 hc.2 q
abbrev o_powW : Op2 := o_ii CPowW fun i j => i ^ j.toNat
theorem om_powW : OpM X (binaryOp .Pow) o_powW := om_ii op_powW
abbrev o_mulW : Op2 := o_ii CMulW fun i j => i * j
theorem om_mulW : OpM X (binaryOp .Mult) o_mulW := om_ii op_mulW
theorem r_powW {i j : Int} {Q : D → Prop} : o_powW (.int i) (.int j) Q ↔ CPowW i j ∧ Q (.int (i ^ j.toNat)) := Iff.rfl
theorem r_mulW {i j : Int} {Q : D → Prop} : o_mulW (.int i) (.int j) Q ↔ CMulW i j ∧ Q (.int (i * j)) := Iff.rfl
end
end M

namespace M
open PySem PySem.Spec PyProof.Rows L2
section
variable {X : Cx} {pos : Pos}
theorem reads_of_ints {h : Heap} : ∀ {ns : List Int} {its : List Value}, Vals (ns.map V.int) its → ReadsAll h its (ns.map .int) []
  | [], _, .nil => .nil
  | n :: ns, _, .cons r rs => by
    obtain ⟨t, rfl⟩ := r
    exact .cons (as := []) (bs := []) (show Reads h (Value.int n t) (.int n) [] from .int _ _) (reads_of_ints rs)
theorem alike_of_ints {ns : List Int} : PySem.W.AlikeAll (ns.map PyData.int) := ⟨fun x hx y hy => by
  obtain ⟨a, _, rfl⟩ := List.mem_map.mp hx
  obtain ⟨b, _, rfl⟩ := List.mem_map.mp hy
  simp only [PySem.W.alike], fun x hx => by
  obtain ⟨a, _, rfl⟩ := List.mem_map.mp hx
  intro z; cases z⟩
theorem depth0 (ns : List Int) : PyData.depthAll (ns.map PyData.int) ≤ 1 := depth_ints ns
theorem reads_int {h : Heap} {v : Value} {n : Int} {bs : List Addr} (r : Reads h v (.int n) bs) : RelV (.int n) v := by
  cases r
  exact ⟨_, rfl⟩
/-- min(list of whole numbers, default=d) -/
theorem pe_minD {e ed : Expr} {te td : TE} {p pk : Pos} (hu : X.A.units + 3 < cLine) (hc : X.calm = true) (hm : X.mg "min" = none) (he : PE X e te) (hd : PE X ed td) (hg : Gl X "min" := by rfl)
    (hs : starEach [e] X.env = (false, eval e X.env) :: starEach [] X.env := by rfl)
    (h1 : backTo pos (starEach [e] X.env) = (false, eval e X.env) :: backTo pos (starEach [] X.env) := by rfl) (h2 : ((backTo pos (starEach [e] X.env)).any fun x => x.1) = false := by rfl)
    (h3 : (backToKw pos (keywordEach [⟨some "default", ed, pk⟩] X.env)).all (·.1.isSome) = true := by rfl) (h4 : (backToKw pos (keywordEach [⟨some "default", ed, pk⟩] X.env)).any (·.1.isNone) = false := by rfl)
    (h5 : (backToKw pos (keywordEach [⟨some "default", ed, pk⟩] X.env)).filterMap (·.1) = [PySem.Str.ofString "default"] := by rfl) :
    PE X (.Call (.Name "min" p) [e] [⟨some "default", ed, pk⟩] pos) (fun σ H Q => tCons te tNil σ H fun vs H1 => ∃ x, vs = [x] ∧ tCons td tNil σ H1 fun zs H2 => ∃ d, zs = [d] ∧ ∃ (a : Addr) (ns : List Int), x = .ref a ∧ SqL X.K H2 a (ns.map V.int) ∧ (ns = [] → Q d H2) ∧ ∀ n ns', ns = n :: ns' → Q (.int (ns'.foldl min n)) H2) := ⟨fun pins s σ H Q I h => by
  refine wpAny_Call_Name_kw (ld_blt (u := .builtin "min") I hg hm (by decide +kernel) ?_ (by decide) (by decide))
  refine callWith_kw (thn ((pa_cons he pa_nil hs).run pos pins s σ H (fun vs H1 => ∃ x, vs = [x] ∧ tCons td tNil σ H1 fun zs H2 => ∃ d, zs = [d] ∧ ∃ (a : Addr) (ns : List Int), x = .ref a ∧ SqL X.K H2 a (ns.map V.int) ∧ (ns = [] → Q d H2) ∧ ∀ n ns', ns = n :: ns' → Q (.int (ns'.foldl min n)) H2) I h) fun us s1 ⟨vs, H1, I1, r1, x, ev, q⟩ => ?_) h1 h2 h3 h4
  · subst ev
    refine thn ((pk_cons hd pk_nil).run pos pins s1 σ H1 (fun zs H2 => ∃ d, zs = [d] ∧ ∃ (a : Addr) (ns : List Int), x = .ref a ∧ SqL X.K H2 a (ns.map V.int) ∧ (ns = [] → Q d H2) ∧ ∀ n ns', ns = n :: ns' → Q (.int (ns'.foldl min n)) H2) I1 q) fun ws s2 ⟨zs, H2, I2, rz, d, ez, a, ns, ex, hq, q0, q1⟩ => ?_
    · subst ez ex
      rw [h5]
      cases r1 with
      | cons ru rn =>
      cases rn
      cases ru
      cases rz with
      | cons rd rn =>
      cases rn
      obtain ⟨its, rv, pl, _⟩ := I2.list hq
      refine PySem.W.min_list_default (I2.ok.hd hc) pl.isList (reads_of_ints rv) alike_of_ints (by have := depth0 ns; omega) (fun e0 h' tk k => ?_) fun y ys i v h' tk bs e1 _ r k => ?_
      · have e0' : ns = [] := by simpa using e0
        exact ⟨d, H2, I2.kept (t' := tk) k, rd, q0 e0'⟩
      · cases ns with
        | nil => cases e1
        | cons n ns' =>
          rw [List.map_cons] at e1
          cases e1
          rw [PySem.W.minD_ints] at r
          exact ⟨_, H2, I2.kept (t' := tk) k, reads_int r, q1 n ns' rfl⟩⟩
/-- max(list of whole numbers, default=d) -/
theorem pe_maxD {e ed : Expr} {te td : TE} {p pk : Pos} (hu : X.A.units + 3 < cLine) (hc : X.calm = true) (hm : X.mg "max" = none) (he : PE X e te) (hd : PE X ed td) (hg : Gl X "max" := by rfl)
    (hs : starEach [e] X.env = (false, eval e X.env) :: starEach [] X.env := by rfl)
    (h1 : backTo pos (starEach [e] X.env) = (false, eval e X.env) :: backTo pos (starEach [] X.env) := by rfl) (h2 : ((backTo pos (starEach [e] X.env)).any fun x => x.1) = false := by rfl)
    (h3 : (backToKw pos (keywordEach [⟨some "default", ed, pk⟩] X.env)).all (·.1.isSome) = true := by rfl) (h4 : (backToKw pos (keywordEach [⟨some "default", ed, pk⟩] X.env)).any (·.1.isNone) = false := by rfl)
    (h5 : (backToKw pos (keywordEach [⟨some "default", ed, pk⟩] X.env)).filterMap (·.1) = [PySem.Str.ofString "default"] := by rfl) :
    PE X (.Call (.Name "max" p) [e] [⟨some "default", ed, pk⟩] pos) (fun σ H Q => tCons te tNil σ H fun vs H1 => ∃ x, vs = [x] ∧ tCons td tNil σ H1 fun zs H2 => ∃ d, zs = [d] ∧ ∃ (a : Addr) (ns : List Int), x = .ref a ∧ SqL X.K H2 a (ns.map V.int) ∧ (ns = [] → Q d H2) ∧ ∀ n ns', ns = n :: ns' → Q (.int (ns'.foldl max n)) H2) := ⟨fun pins s σ H Q I h => by
  refine wpAny_Call_Name_kw (ld_blt (u := .builtin "max") I hg hm (by decide +kernel) ?_ (by decide) (by decide))
  refine callWith_kw (thn ((pa_cons he pa_nil hs).run pos pins s σ H (fun vs H1 => ∃ x, vs = [x] ∧ tCons td tNil σ H1 fun zs H2 => ∃ d, zs = [d] ∧ ∃ (a : Addr) (ns : List Int), x = .ref a ∧ SqL X.K H2 a (ns.map V.int) ∧ (ns = [] → Q d H2) ∧ ∀ n ns', ns = n :: ns' → Q (.int (ns'.foldl max n)) H2) I h) fun us s1 ⟨vs, H1, I1, r1, x, ev, q⟩ => ?_) h1 h2 h3 h4
  · subst ev
    refine thn ((pk_cons hd pk_nil).run pos pins s1 σ H1 (fun zs H2 => ∃ d, zs = [d] ∧ ∃ (a : Addr) (ns : List Int), x = .ref a ∧ SqL X.K H2 a (ns.map V.int) ∧ (ns = [] → Q d H2) ∧ ∀ n ns', ns = n :: ns' → Q (.int (ns'.foldl max n)) H2) I1 q) fun ws s2 ⟨zs, H2, I2, rz, d, ez, a, ns, ex, hq, q0, q1⟩ => ?_
    · subst ez ex
      rw [h5]
      cases r1 with
      | cons ru rn =>
      cases rn
      cases ru
      cases rz with
      | cons rd rn =>
      cases rn
      obtain ⟨its, rv, pl, _⟩ := I2.list hq
      refine PySem.W.max_list_default (I2.ok.hd hc) pl.isList (reads_of_ints rv) alike_of_ints (by have := depth0 ns; omega) (fun e0 h' tk k => ?_) fun y ys i v h' tk bs e1 _ r k => ?_
      · have e0' : ns = [] := by simpa using e0
        exact ⟨d, H2, I2.kept (t' := tk) k, rd, q0 e0'⟩
      · cases ns with
        | nil => cases e1
        | cons n ns' =>
          rw [List.map_cons] at e1
          cases e1
          rw [PySem.W.maxD_ints] at r
          exact ⟨_, H2, I2.kept (t' := tk) k, reads_int r, q1 n ns' rfl⟩⟩
/-- the same by data -/
def wminD (a b : DE) : DE := fun s Q => a s fun x s1 => b s1 fun d s2 => ∃ ns : List Int, lstOf x = some (ns.map .int) ∧ (ns = [] → Q d s2) ∧ ∀ n ns', ns = n :: ns' → Q (.int (ns'.foldl min n)) s2
def wmaxD (a b : DE) : DE := fun s Q => a s fun x s1 => b s1 fun d s2 => ∃ ns : List Int, lstOf x = some (ns.map .int) ∧ (ns = [] → Q d s2) ∧ ∀ n ns', ns = n :: ns' → Q (.int (ns'.foldl max n)) s2
theorem me_minD {e ed : Expr} {a b : DE} {p pk : Pos} (hu : X.A.units + 3 < cLine) (hc : X.calm = true) (hm : X.mg "min" = none) (he : ME X e a) (hd : ME X ed b) (hg : Gl X "min" := by rfl)
    (hs : starEach [e] X.env = (false, eval e X.env) :: starEach [] X.env := by rfl)
    (h1 : backTo pos (starEach [e] X.env) = (false, eval e X.env) :: backTo pos (starEach [] X.env) := by rfl) (h2 : ((backTo pos (starEach [e] X.env)).any fun x => x.1) = false := by rfl)
    (h3 : (backToKw pos (keywordEach [⟨some "default", ed, pk⟩] X.env)).all (·.1.isSome) = true := by rfl) (h4 : (backToKw pos (keywordEach [⟨some "default", ed, pk⟩] X.env)).any (·.1.isNone) = false := by rfl)
    (h5 : (backToKw pos (keywordEach [⟨some "default", ed, pk⟩] X.env)).filterMap (·.1) = [PySem.Str.ofString "default"] := by rfl) :
    ME X (.Call (.Name "min" p) [e] [⟨some "default", ed, pk⟩] pos) (wminD a b) := ⟨fun {F H M σ ds Q} w0 s0 q => by
  refine to_wE (pe_minD hu hc hm (pe_w e) (pe_w ed) hg hs h1 h2 h3 h4 h5) ?_
  refine (he.run w0 s0 (Q := fun x s1 => _) q).imp fun v H1 ⟨x, ds1, F1, N1, M1, w1, t1, r1, s1, k1⟩ => ?_
  refine ⟨v, rfl, ?_⟩
  refine (hd.run (w1.part (List.sublist_append_right _ _)) s1 (Q := fun d s2 => _) k1).imp fun u H2 ⟨d, ds2, F2, N2, M2, w2, t2, r2, s2, k2⟩ => ?_
  obtain ⟨ns, ex, q0, q1⟩ := k2
  have n := next w0 w1 t1 w2 t2
  have rx := r1.mono n.up n.same
  obtain ⟨a, us, _, rfl, hq, l1, _⟩ := rx.seq n.wd.sub ex
  have eu := intsV l1
  subst eu
  have sub : (N2 ++ M2).Sublist ((N1 ++ N2) ++ M2) := by rw [List.append_assoc]; exact List.sublist_append_right _ _
  have sub0 : M2.Sublist ((N1 ++ N2) ++ M2) := List.sublist_append_right _ _
  exact ⟨u, rfl, a, ns, rfl, hq, fun e0 => ⟨d, ds2, F2, N2, M2, n.wd.part sub, n.tr.drop fun a h => sub.subset h, r2, s2, q0 e0⟩, fun i is e1 => ⟨.int _, ds2, F2, [], M2, n.wd.part sub0, n.tr.drop fun a h => sub0.subset h, .int _, s2, q1 i is e1⟩⟩⟩
theorem me_maxD {e ed : Expr} {a b : DE} {p pk : Pos} (hu : X.A.units + 3 < cLine) (hc : X.calm = true) (hm : X.mg "max" = none) (he : ME X e a) (hd : ME X ed b) (hg : Gl X "max" := by rfl)
    (hs : starEach [e] X.env = (false, eval e X.env) :: starEach [] X.env := by rfl)
    (h1 : backTo pos (starEach [e] X.env) = (false, eval e X.env) :: backTo pos (starEach [] X.env) := by rfl) (h2 : ((backTo pos (starEach [e] X.env)).any fun x => x.1) = false := by rfl)
    (h3 : (backToKw pos (keywordEach [⟨some "default", ed, pk⟩] X.env)).all (·.1.isSome) = true := by rfl) (h4 : (backToKw pos (keywordEach [⟨some "default", ed, pk⟩] X.env)).any (·.1.isNone) = false := by rfl)
    (h5 : (backToKw pos (keywordEach [⟨some "default", ed, pk⟩] X.env)).filterMap (·.1) = [PySem.Str.ofString "default"] := by rfl) :
    ME X (.Call (.Name "max" p) [e] [⟨some "default", ed, pk⟩] pos) (wmaxD a b) := ⟨fun {F H M σ ds Q} w0 s0 q => by
  refine to_wE (pe_maxD hu hc hm (pe_w e) (pe_w ed) hg hs h1 h2 h3 h4 h5) ?_
  refine (he.run w0 s0 (Q := fun x s1 => _) q).imp fun v H1 ⟨x, ds1, F1, N1, M1, w1, t1, r1, s1, k1⟩ => ?_
  refine ⟨v, rfl, ?_⟩
  refine (hd.run (w1.part (List.sublist_append_right _ _)) s1 (Q := fun d s2 => _) k1).imp fun u H2 ⟨d, ds2, F2, N2, M2, w2, t2, r2, s2, k2⟩ => ?_
  obtain ⟨ns, ex, q0, q1⟩ := k2
  have n := next w0 w1 t1 w2 t2
  have rx := r1.mono n.up n.same
  obtain ⟨a, us, _, rfl, hq, l1, _⟩ := rx.seq n.wd.sub ex
  have eu := intsV l1
  subst eu
  have sub : (N2 ++ M2).Sublist ((N1 ++ N2) ++ M2) := by rw [List.append_assoc]; exact List.sublist_append_right _ _
  have sub0 : M2.Sublist ((N1 ++ N2) ++ M2) := List.sublist_append_right _ _
  exact ⟨u, rfl, a, ns, rfl, hq, fun e0 => ⟨d, ds2, F2, N2, M2, n.wd.part sub, n.tr.drop fun a h => sub.subset h, r2, s2, q0 e0⟩, fun i is e1 => ⟨.int _, ds2, F2, [], M2, n.wd.part sub0, n.tr.drop fun a h => sub0.subset h, .int _, s2, q1 i is e1⟩⟩⟩
theorem x_minD {a b : DE} {s : DS} {Q : D → DS → Prop} : wminD a b s Q ↔ a s fun x s1 => b s1 fun d s2 => ∃ ns : List Int, lstOf x = some (ns.map .int) ∧ (ns = [] → Q d s2) ∧ ∀ n ns', ns = n :: ns' → Q (.int (ns'.foldl min n)) s2 := ⟨id, id⟩
theorem x_maxD {a b : DE} {s : DS} {Q : D → DS → Prop} : wmaxD a b s Q ↔ a s fun x s1 => b s1 fun d s2 => ∃ ns : List Int, lstOf x = some (ns.map .int) ∧ (ns = [] → Q d s2) ∧ ∀ n ns', ns = n :: ns' → Q (.int (ns'.foldl max n)) s2 := ⟨id, id⟩
end
end M

namespace Z3
open PySem PySem.Spec PyProof.Rows L2
section
variable {M : Model} {A : Around} {E : Value → Shared → Prop} {s : Shared} {env : Env}
theorem callWith_typeKw {pos : Pos} {T : String} {e : Expr} {rest : List Expr} {kws : List Keyword} {Q : Value → Shared → Prop}
    (h : wpAny M A (spliced (backTo pos (starEach (e :: rest) env))) (fun vs s₁ => wpAny M A (evalAll ((backToKw pos (keywordEach kws env)).map (·.2)))
      (fun kvs s₂ => wpAny M A (call (.type T) vs (((backToKw pos (keywordEach kws env)).filterMap (·.1)).zip kvs)) Q E s₂) E s₁) E s)
    (he : backTo pos (starEach (e :: rest) env) = (false, eval e env) :: backTo pos (starEach rest env) := by rfl)
    (hplain : (backTo pos (starEach (e :: rest) env)).any (·.1) = false := by rfl)
    (hall : (backToKw pos (keywordEach kws env)).all (·.1.isSome) = true := by rfl)
    (hkw : (backToKw pos (keywordEach kws env)).any (·.1.isNone) = false := by rfl) :
    wpAny M A (callWith pos (.type T) [] (backTo pos (starEach (e :: rest) env)) (backToKw pos (keywordEach kws env))) Q E s := by
  unfold callWith
  refine wpAny_bind (wpAny_holding (wpAny_mono (?_ : wpAny M A (evalArgs (.type T) true (backTo pos (starEach (e :: rest) env)) (backToKw pos (keywordEach kws env))) (fun a s₁ => wpAny M A (call (.type T) ([] ++ a.pos) a.kw) Q E s₁) E s) (fun a s₁ h₁ => wpAny_bind (wpAny_standAt ?_)) fun _ _ x => x))
  · rw [he] at h ⊢
    exact evalArgs_kwB hall h
  · simp only [hplain, hkw, Bool.or_false]
    refine wpAny_bind (wpAny_pure ?_)
    exact wpAny_bind (wpAny_mono h₁ (fun r s₂ hr => wpAny_bind (wpAny_holding (wpAny_point (wpAny_pure hr)))) fun _ _ x => x)
end
/-- the list at a as it stands at each turn, each item in a new pair with its number, counted from k -/
def IteS (K : PySem.W.Frag) (a : Addr) (k : Int) : It :=
  ⟨fun i H => ∃ (xs : List V) (x : V), SqL K H a xs ∧ xs[i]? = some x, fun i H v H' => ∃ T x, v = .ref T ∧ H T = none ∧ H' = upd H T (.tup [.int (k + (i : Nat)), x]) ∧ ∀ xs, SqL K H a xs → xs[i]? = some x, fun i H => ∃ xs : List V, SqL K H a xs ∧ xs.length = i⟩
theorem turn_enumS {P : Program} {w : World} {K : PySem.W.Frag} {elts : List Expr} {kk : Nat} {tpos : Pos} (a e it : Addr) (k : Int) (hne : e ≠ it) (hia : a ≠ it) (hea : e ≠ a) :
    Turn P w K (.Tuple elts kk tpos) (IteS K a k) [e, it] e (fun i h => (∃ old, IsEnum h e it (k + ((i : Nat) : Int)) old) ∧ h.IsListIter it a i) where
  mem := by simp
  obj := fun i h st b hb => by
    obtain ⟨⟨old, he⟩, ⟨o, ho, hc, hd⟩⟩ := st
    have e' : b = e ∨ b = it := by simpa using hb
    rcases e' with z | z
    · rw [z]; exact ⟨_, he, fun v q => nomatch q⟩
    · rw [z]; exact ⟨o, ho, fun v q => by rw [hd] at q; cases q⟩
  keep := fun i h h' st k => let ⟨⟨old, he⟩, hi⟩ := st; ⟨⟨old, k e (by simp) _ he⟩, hi.at fun o q => k it (by simp) o q⟩
  item := by
    intro X hP hw hK hc i pins s σ H E I hf st hg
    subst hP hw hK
    obtain ⟨⟨old, he⟩, hit⟩ := st
    obtain ⟨xs, x, hq, hx⟩ := hg
    obtain ⟨its, rv, p, hz⟩ := I.list hq
    obtain ⟨u, hu, ru⟩ := rv.get hx
    have hel : e < s.heap.objs.size := Heap.lt_size he
    have hil : it < s.heap.objs.size := by obtain ⟨_, q, _⟩ := hit; exact Heap.lt_size q
    have hlt : i < its.toArray.size := by rw [List.size_toArray]; exact (List.getElem?_eq_some_iff.mp hu).1
    refine wpAny_pyNext_enum_itemC (Draws.list (A := X.A.in1) (I.ok.hd hc) it a hia its.toArray) he ⟨hit, p.isList⟩ hlt hne (by simp [hne, hea]) fun v h' tk y1 ho st' hT hsz hk => ?_
    have ev : v = u := by
      have : its[i]? = some v := by simpa using y1
      rw [hu] at this; cases this; rfl
    subst ev
    refine ⟨_, rfl, wpAny_letOwnedTupleGo_enum (s := { s with heap := h', toks := tk + 1 }) ho fun h'' he' sb => ?_⟩
    have hT2 : h''.get? s.heap.objs.size = some { cls := .type "tuple", data := .seq #[.int (k + (i : Int)) tk, v] } := (sb.2 _ (Nat.ne_of_gt hel)).trans hT
    have new : ObjOk X.prog X.w (upd H s.heap.objs.size (.tup [.int (k + (i : Nat)), x])) h'' s.heap.objs.size (.tup [.int (k + (i : Nat)), x]) :=
      ⟨by show 2 ≤ sizeLine; decide, [.int (k + (i : Int)) tk, v], .cons ⟨_, rfl⟩ (.cons ru .nil), ⟨_, hT2, rfl, _, rfl⟩⟩
    have I1 : Inv X pins σ (upd H s.heap.objs.size (.tup [.int (k + (i : Nat)), x])) { s with heap := h'', toks := tk + 1 } :=
      I.turnedNew (ch := [e, it]) (fun b ob hb q => (sb.2 b (fun z => hb (by simp [z]))).trans (hk b ob (fun z => hb (by simp [z])) (fun z => hb (by simp [z])) q)) hf (Nat.le_refl _) new
    refine ⟨.ref s.heap.objs.size, _, I1, rfl, ⟨_, x, rfl, I.hok.fresh (Nat.le_refl _), rfl, fun ys hy => by rw [I.list_inj hy hq]; exact hx⟩, ⟨⟨v, ?_⟩, st'.1.at fun o q => (sb.2 it (Ne.symm hne)).trans q⟩, fun b hb => ?_⟩
    · have e1 : k + ((i + 1 : Nat) : Int) = k + (i : Int) + 1 := by omega
      rw [e1]; exact he'
    · have hb' : b < s.heap.objs.size := by
        have e' : b = e ∨ b = it := by simpa using hb
        rcases e' with z | z
        · rw [z]; exact hel
        · rw [z]; exact hil
      rw [upd_ne (Nat.ne_of_lt hb')]
      exact (hf b hb).1
  done := by
    intro X hP hw hK hc i pins s σ H E I hf st hg
    subst hP hw hK
    obtain ⟨⟨old, he⟩, hit⟩ := st
    obtain ⟨xs, hq, hx⟩ := hg
    obtain ⟨its, rv, p, hz⟩ := I.list hq
    have hl := rv.length
    have hn : i = its.toArray.size := by rw [List.size_toArray]; omega
    subst hn
    exact wpAny_pyNext_enum_endD (Draws.list (A := X.A.in1) (I.ok.hd hc) it a hia its.toArray) he ⟨hit, p.isList⟩ fun h' hx => ⟨rfl, I.turnedL (t' := s.toks) (ch := [e, it]) (fun b o hb y => hx b o (fun e' => hb (by simp [e'])) y) hf⟩
  self := fun A i s Q E st h => let ⟨⟨_, he⟩, _⟩ := st; wpAny_pyIter_enum he h
def iEnumS (K : PySem.W.Frag) (k : Int) (ta : TA) : TI := fun σ H R => ta σ H fun vs H1 => ∃ a xs, vs = [.ref a] ∧ SqL K H1 a xs ∧ R (IteS K a k) H1
theorem pi_enumS {X : Cx} {e : Expr} {ta : TA} {p pos tpos pk p2 : Pos} {j2 : Nat} {k : Int} {elts : List Expr} {kk : Nat} (hk0 : -(2 ^ 63) ≤ k) (hk1 : k < 2 ^ 63) (hg : Gl X "enumerate") (hm : X.mg "enumerate" = none) (ha : PA X [e] ta)
    (h1 : backTo pos (starEach [e] X.env) = (false, eval e X.env) :: backTo pos (starEach [] X.env) := by rfl) (h2 : ((backTo pos (starEach [e] X.env)).any fun x => x.1) = false := by rfl)
    (h3 : (backToKw pos (keywordEach [⟨some "start", .Constant (.int k) j2 p2, pk⟩] X.env)).all (·.1.isSome) = true := by rfl) (h4 : (backToKw pos (keywordEach [⟨some "start", .Constant (.int k) j2 p2, pk⟩] X.env)).any (·.1.isNone) = false := by rfl)
    (h5 : (backToKw pos (keywordEach [⟨some "start", .Constant (.int k) j2 p2, pk⟩] X.env)).filterMap (·.1) = [PySem.Str.ofString "start"] := by rfl) :
    PI X (.Tuple elts kk tpos) (.Call (.Name "enumerate" p) [e] [⟨some "start", .Constant (.int k) j2 p2, pk⟩] pos) (iEnumS X.K k ta) := by
  refine ⟨fun pins s σ H R I h => ?_⟩
  refine wpAny_Call_Name_kw (ld_blt (u := .type "enumerate") I hg hm boot_enumerate ?_ (by decide) (by decide))
  refine callWith_typeKw (thn (ha.run pos pins s σ H (fun vs H1 => ∃ a xs, vs = [.ref a] ∧ SqL X.K H1 a xs ∧ R (IteS X.K a k) H1) I h) fun us s1 ⟨vs, H1, I1, r1, a, xs, ex, hq, q⟩ => ?_) h1 h2 h3 h4
  subst ex
  cases r1 with
  | cons r rr =>
    cases rr
    cases r
    refine thn ((pk_cons (pe_int (i := k)) pk_nil).run pos pins s1 σ H1 (fun zs H2 => zs = [.int k] ∧ SqL X.K H2 a xs ∧ R (IteS X.K a k) H2) I1 ⟨rfl, hq, q⟩) fun ws s2 ⟨zs, H2, I2, rz, ez, hq2, q2⟩ => ?_
    subst ez
    rw [h5]
    cases rz with
    | cons rd rn =>
    cases rn
    obtain ⟨tk, rfl⟩ := rd
    obtain ⟨its, rv, p', hz⟩ := I2.list hq2
    have la : a < s2.heap.objs.size := by obtain ⟨_, e, _⟩ := p'.isList; exact Heap.lt_size e
    refine enum_begins_start (begins_list a its.toArray) p'.isList hk0 hk1 fun h' he hit hsz hk => wpAny_pyIter_enum he ?_
    have I3 : Inv X pins σ H2 { s2 with heap := h' } := I2.kept (t' := s2.toks) hk
    refine ⟨s2.heap.objs.size + 1, [s2.heap.objs.size + 1, s2.heap.objs.size], _, _, H2, rfl, I3, turn_enumS a (s2.heap.objs.size + 1) s2.heap.objs.size k (Nat.succ_ne_self _) (Nat.ne_of_lt la) (Nat.ne_of_gt (Nat.lt_succ_of_lt la)), ⟨⟨.none, ?_⟩, ⟨_, hit, rfl, rfl⟩⟩, fun b hb => ?_, q2⟩
    · show IsEnum h' _ _ (k + ((0 : Nat) : Int)) .none
      rw [show k + ((0 : Nat) : Int) = k by omega]
      exact he
    · have e' : b = s2.heap.objs.size + 1 ∨ b = s2.heap.objs.size := by simpa using hb
      have hle : s2.heap.objs.size ≤ b := by
        rcases e' with z | z
        · rw [z]; exact Nat.le_add_right _ _
        · rw [z]; exact Nat.le_refl _
      exact I2.fpOk hle (I2.hok.fresh hle)
end Z3
namespace M
open PySem PySem.Spec PyProof.Rows L2 Z3
section
variable {X : Cx} {pos : Pos}
def enumSD (k : Int) (ds : List D) : List D := (List.range ds.length).map fun (i : Nat) => .tup [.int (k + (i : Nat)), ds.getD i .off]
theorem enumSD_at {k : Int} {ds : List D} {i : Nat} {x : D} (h : (enumSD k ds)[i]? = some x) : ∃ d, ds[i]? = some d ∧ x = .tup [.int (k + (i : Nat)), d] := by
  unfold enumSD at h
  rw [List.getElem?_map] at h
  cases e : (List.range ds.length)[i]? with
  | none => rw [e] at h; cases h
  | some j =>
    rw [e] at h
    cases h
    obtain ⟨hl, hk⟩ := List.getElem?_eq_some_iff.mp e
    rw [List.getElem_range] at hk
    subst hk
    rw [List.length_range] at hl
    exact ⟨ds[i], List.getElem?_eq_getElem hl, by show D.tup [.int (k + (i : Nat)), ds.getD i .off] = _; rw [List.getD_eq_getElem?_getD, List.getElem?_eq_getElem hl]; rfl⟩
theorem walks_enumS {a : Addr} {k : Int} {ds : List D} {N : List Addr} {d : D} (e : lstOf d = some ds) (fz0 : fzL ds = ds) : Walks X (IteS X.K a k) (fun F H => Rp X.K F H d (.ref a) N) (enumSD k ds) where
  go := fun {F H i} w p hi => by
    obtain ⟨b, vs, _, eb, q, l, _⟩ := p.seq w e
    cases eb
    have hl := l.len
    unfold enumSD at hi
    rw [List.length_map, List.length_range] at hi
    exact ⟨vs, vs[i], q, List.getElem?_eq_getElem (by omega)⟩
  stop := fun {F H} w p => by
    obtain ⟨b, vs, _, eb, q, l, _⟩ := p.seq w e
    cases eb
    refine ⟨vs, q, ?_⟩
    unfold enumSD
    rw [List.length_map, List.length_range]
    exact l.len.symm
  item := fun {F H H' M i x dd} w p y ed => by
    obtain ⟨b, vs, _, eb, q, l, _⟩ := p.seq w.sub e
    cases eb
    obtain ⟨T, z, rfl, hT, rfl, hx⟩ := y
    obtain ⟨d', e1, rfl⟩ := enumSD_at ed
    exact made_pair w hT (.cons (M := []) (N := []) (.int _) (.cons (M := []) (N := []) ((l.ice0 fz0).at0 e1 (hx vs q)) .nil))
/-- enumerate(x, start=k) -/
def ienumS (k : Int) (a : DE) : DS → (List D → DS → Prop) → Prop := fun s r => a s fun d s1 => ∃ xs, lstOf d = some xs ∧ fzL xs = xs ∧ r (enumSD k xs) s1
theorem mi_enumS {elts : List Expr} {kk j2 : Nat} {tpos p pk p2 : Pos} {e : Expr} {a : DE} {k : Int} (hk0 : -(2 ^ 63) ≤ k) (hk1 : k < 2 ^ 63) (hm : X.mg "enumerate" = none) (h : MEs X [e] (wcons a wnil)) (hg : Gl X "enumerate" := by rfl)
    (h1 : backTo pos (starEach [e] X.env) = (false, eval e X.env) :: backTo pos (starEach [] X.env) := by rfl) (h2 : ((backTo pos (starEach [e] X.env)).any fun x => x.1) = false := by rfl)
    (h3 : (backToKw pos (keywordEach [⟨some "start", .Constant (.int k) j2 p2, pk⟩] X.env)).all (·.1.isSome) = true := by rfl) (h4 : (backToKw pos (keywordEach [⟨some "start", .Constant (.int k) j2 p2, pk⟩] X.env)).any (·.1.isNone) = false := by rfl)
    (h5 : (backToKw pos (keywordEach [⟨some "start", .Constant (.int k) j2 p2, pk⟩] X.env)).filterMap (·.1) = [PySem.Str.ofString "start"] := by rfl) :
    MI X (.Tuple elts kk tpos) (.Call (.Name "enumerate" p) [e] [⟨some "start", .Constant (.int k) j2 p2, pk⟩] pos) (ienumS k a) := ⟨_, pi_enumS hk0 hk1 hg hm (pa_w [e]) h1 h2 h3 h4 h5, fun {F H M σ ds r} w0 s0 q => by
  refine (h.run w0 s0 (Q := fun xs s1 => match xs with | [d] => ∃ ys, lstOf d = some ys ∧ fzL ys = ys ∧ r (enumSD k ys) s1 | _ => False) q).imp fun vs H1 ⟨xs, ds1, F1, N, M1, hv, w1, t1, r1, s1, k1⟩ => ?_
  match xs, k1 with
  | [d], ⟨ys, e0, e1, k1⟩ =>
    obtain ⟨v, rfl, rr⟩ := r1.inv1
    obtain ⟨c, us, _, rfl, q1, l, _⟩ := rr.seq w1.sub e0
    exact ⟨c, us, rfl, q1, _, ds1, F1, N, M1, _, w1, t1, s1, rr, walks_enumS e0 e1, lies_rp, k1⟩⟩
theorem x_enumS {a : DE} {k : Int} {s : DS} {r : List D → DS → Prop} : ienumS k a s r ↔ a s fun d s1 => ∃ xs, lstOf d = some xs ∧ fzL xs = xs ∧ r (enumSD k xs) s1 := ⟨id, id⟩
end
end M

namespace Q
open PySem PySem.Spec PyProof.Rows L2 M Z3
def topS (i : Nat) : Stmt := PySem.Challenge.pw_meetrow_k33_a_beat.main.body.getD i (.Pass ⟨0, 0, 0, 0⟩)
def bn : List Str := ["abs", "int", "len", "list", "range", "repr", "sorted", "sum", "tuple", "zip"]
/-! ### the promises of the defs -/
def Tape (n : Nat) (d : D) : Prop := ∃ cells spot left, d = tapeD cells spot left ∧ cells ≠ [] ∧ cells.length ≤ 63 ∧ 0 ≤ spot ∧ spot + n ≤ 2 ^ 40 ∧ 0 ≤ left
theorem Tape.on {n : Nat} {d : D} (h : Tape n d) : on d = true := by
  obtain ⟨_, _, _, rfl, _⟩ := h
  rfl
theorem Tape.mono {m n : Nat} {d : D} (h : Tape n d) (k : m ≤ n) : Tape m d := by
  obtain ⟨c, s, l, e, h1, h2, h3, h4, h5⟩ := h
  exact ⟨c, s, l, e, h1, h2, h3, by omega, h5⟩
def S__law_draw : FW := fun ds R => ∃ t m n, ds = [t, .int m] ∧ Tape (n + 1) t ∧ 0 < m ∧ m < 2 ^ 30 ∧ ∀ r t', 0 ≤ r → r < m → Tape n t' → R (.int r) [t', .off]
theorem to_draw {t : D} {m : Int} {n : Nat} {R : D → List D → Prop} (ht : Tape (n + 1) t) (h0 : 0 < m) (h1 : m < 2 ^ 30) (h : ∀ r t', 0 ≤ r → r < m → Tape n t' → R (.int r) [t', .off]) : S__law_draw [t, .int m] R := ⟨t, m, n, rfl, ht, h0, h1, h⟩
def S__law_begun : FW := fun ds R => ∃ ns : List Int, ds = [.frl (ns.map .int)] ∧ ns.length ≤ 63 ∧ ∀ t, Tape (2 ^ 39) t → R t [.off]
def S__law_pick : FW := fun ds R => ∃ t o xs n, ds = [t, .lst o xs] ∧ Tape (n + 1) t ∧ xs ≠ [] ∧ xs.length ≤ 10000 ∧ (∀ d ∈ xs, on d = true ∧ fz d = d) ∧ ∀ d t', d ∈ xs → Tape n t' → R d [t', .off]
theorem to_pick {t : D} {o : Bool} {xs : List D} {n : Nat} {R : D → List D → Prop} (ht : Tape (n + 1) t) (h0 : xs ≠ []) (h1 : xs.length ≤ 10000) (h2 : ∀ d ∈ xs, on d = true ∧ fz d = d) (h : ∀ d t', d ∈ xs → Tape n t' → R d [t', .off]) : S__law_pick [t, .lst o xs] R := ⟨t, o, xs, n, rfl, ht, h0, h1, h2, h⟩
/-! ### promises of the shared defs -/
def ilD (ns : List Int) : D := .lst false (ns.map .int)
def upto (n : Nat) : List Int := (List.range n).map fun (k : Nat) => (k : Int) + 1
def Spot (n : Nat) (σ : List Int) : Prop := σ.map absI = upto n
def spotD (σ : List Int) : D := .tup (σ.map .int)
def Book (n : Nat) (d : D) : Prop := ∃ (o o1 o2 o3 : Bool) (cs fs : List (List Int)) (us : List Int), d = bookX o (.lst o1 (cs.map ilD)) (.lst o2 (fs.map ilD)) (.lst o3 (us.map .int)) ∧ cs.length = n ∧ fs.length = n ∧ n ≤ 60 ∧ (∀ c ∈ cs, c.length ≤ 60) ∧ (∀ c ∈ fs, c.length ≤ 60) ∧ (us.map absI).Perm (upto n)
def S__law_done : FW := fun ds R => ∃ (t : D) (o1 : Bool) (cs : List (List Int)) (o2 : Bool) (fs : List (List Int)) (n : Nat), ds = [t, .lst o1 (cs.map ilD), .lst o2 (fs.map ilD)] ∧ Tape (n + 1 + cs.length) t ∧ cs.length = fs.length ∧ cs.length ≤ 60 ∧ (∀ c ∈ cs, c.length ≤ 60) ∧ (∀ c ∈ fs, c.length ≤ 60) ∧
  ∀ (zs : List Int) (t' : D), zs.length ≤ cs.length → (∀ z ∈ zs, (0 : Int) ≤ z ∧ z < (cs.length : Nat)) → Tape n t' → R (.lst true (zs.map .int)) [t', .lst o1 (cs.map ilD), .lst o2 (fs.map ilD)]
def S__law_book : FW := fun ds R => ∃ (t : D) (m : Int) (n : Nat), ds = [t, .int m] ∧ Tape (n + 20000) t ∧ 0 ≤ m ∧ m ≤ 60 ∧ ∀ b t', Book m.toNat b → Tape n t' → R b [t', .off]
def S__law_spot : FW := fun ds R => ∃ (t b : D) (k n : Nat), ds = [t, b] ∧ Book k b ∧ Tape (n + 100) t ∧ ∀ σ t', Spot k σ → Tape n t' → R (spotD σ) [t', b]
def S__law_stand : FW := fun ds R => ∃ (t b : D) (m : Int) (k n : Nat), ds = [t, b, .int m] ∧ Book k b ∧ 1 ≤ m ∧ m ≤ 60 ∧ Tape (n + 20000) t ∧ ∀ (S : List (List Int)) t', (S.length : Int) = m → (∀ σ ∈ S, Spot k σ) → Tape n t' → R (.lst true (S.map spotD)) [t', b, .off]
def S__law_kind : FW := fun ds R => ∃ (t : D) (o : Bool) (xs : List D) (n : Nat), ds = [t, .lst o xs] ∧ Tape (n + 1) t ∧ ∀ (b : Bool) (t' : D), (b = true → 2 < xs.length) → Tape n t' → R (.bl b) [t', .off]
def S__law_folk : FW := fun ds R => ∃ (t : D) (n : Nat), ds = [t] ∧ Tape (n + 4) t ∧ ∀ (m : Int) (t' : D), 1 ≤ m → m ≤ 30 → Tape n t' → R (.int m) [t']
def meetL (x y z : List Int) : List Int := z3 (fun a b c => if a = b ∨ a = c then a else b) x y z
def S_meet : FW := fun ds R => ∃ x y z : List Int, ds = [spotD x, spotD y, spotD z] ∧ x.length = y.length ∧ x.length = z.length ∧ x.length ≤ 1000 ∧ R (spotD (meetL x y z)) [.off, .off, .off]
def threesD (xs : List D) (r : Bool) : List D := zip3D (((if r then xs.getLast? else xs.head?).getD .off) :: xs.dropLast) xs (xs.tail ++ [((if r then xs.head? else xs.getLast?).getD .off)])
def S_threes : FW := fun ds R => ∃ (o : Bool) (xs : List D) (r : Bool), ds = [.lst o xs, .bl r] ∧ xs ≠ [] ∧ (∀ x ∈ xs, on x = true ∧ fz x = x) ∧ xs.length ≤ 1000 ∧ R (.lst true (threesD xs r)) [.off, .off]
def beatL (S : List (List Int)) (r : Bool) : List (List Int) := z3 meetL (((if r then S.getLast? else S.head?).getD []) :: S.dropLast) S (S.tail ++ [((if r then S.head? else S.getLast?).getD [])])
def S_beat : FW := fun ds R => ∃ (o : Bool) (S : List (List Int)) (r : Bool) (k : Nat), ds = [.lst o (S.map spotD), .bl r] ∧ S ≠ [] ∧ S.length ≤ 100 ∧ (∀ σ ∈ S, σ.length = k) ∧ k ≤ 100 ∧ R (.lst true ((beatL S r).map spotD)) [.off, .off]
def S_law : FW := fun ds R => ∃ ns : List Int, ds = [.frl (ns.map .int)] ∧ ns.length ≤ 63 ∧ R (.bl true) [.off]

abbrev st_threes : Stmt := topS 1
theorem sc_threes : FnScope ["things", "ring", "first", "last"] ["things", "ring"] (defScope st_threes) := ⟨rfl, rfl, rfl, by decide +kernel, rfl, by decide +kernel, by decide +kernel⟩
def w_threes : DSt := wseq (wasg (gtup 2 (gcons (gname 2) (gcons (gname 3) (gnil)))) (wif (tval (wvar 1)) (wtup (wcons (wop2 o_ix (.N 0) (.E (wop1 o_neg (.E (wc (.int 1)))))) (wcons (wop2 o_ix (.N 0) (.E (wc (.int 0)))) (wnil)))) (wtup (wcons (wop2 o_ix (.N 0) (.E (wc (.int 0)))) (wcons (wop2 o_ix (.N 0) (.E (wop1 o_neg (.E (wc (.int 1)))))) (wnil))))))
    (wret (wlz3 (wlstS (wcons (wvar 2) (wstar (wsl (.N 0) wpn (wps (wop1 o_neg (.E (wc (.int 1)))))) (wnil)))) (wvar 0) (wlstS (wstar (wsl (.N 0) (wps (wc (.int 1))) wpn) (wcons (wvar 3) (wnil))))))
theorem dv_threes {P : Program} {w : World} {K : PySem.W.Frag} {mg : Str → Option Value} {base : Heap} {f : Addr} (hz : ∀ x ∈ bn, mg x = none) (cdv : Value) (A : Around) (outer : List Env) (s : Shared) (H : Hp) (hr : Room 0 (A.deeper (envOfC "threes" (defScope st_threes) s.heap.objs.size f cdv))) (hgd : A.guards = some []) :
    MSs (cxOf CX0 P w K mg base ["things", "ring", "first", "last"] "threes" (defScope st_threes) f cdv A outer s H E0).nox [] (defBody st_threes) w_threes :=
  have nd := sc_threes.nd
  (mss_cons (ms_asg (me_if (mt_val (me_var (i := 1))) (me_tup (mes_cons (me_ix (im_ix (u hr 1)) (mo_name (i := 0)) (MO.of (me_un um_neg (MO.of me_int)))) (mes_cons (me_ix (im_ix (u hr 1)) (mo_name (i := 0)) (MO.of me_int)) mes_nil))) (me_tup (mes_cons (me_ix (im_ix (u hr 1)) (mo_name (i := 0)) (MO.of me_int)) (mes_cons (me_ix (im_ix (u hr 1)) (mo_name (i := 0)) (MO.of (me_un um_neg (MO.of me_int)))) mes_nil)))) (mg_tup rfl (mgs_cons (mg_name (i := 2) nd rfl (Or.inl rfl)) (mgs_cons (mg_name (i := 3) nd rfl (Or.inl rfl)) mgs_nil))))
    (mss_one (ms_ret (me_lz3 rfl (hz "list" (by decide)) (hz "zip" (by decide)) (mes_cons (me_lstS (mex_cons (me_var (i := 2)) (mex_star (me_sl (mo_name (i := 0)) mp_none (mp_some (me_un um_neg (MO.of me_int)))) mex_nil))) (mes_cons (me_var (i := 0)) (mes_cons (me_lstS (mex_star (me_sl (mo_name (i := 0)) (mp_some me_int) mp_none) (mex_cons (me_var (i := 3)) mex_nil))) mes_nil)))))))
abbrev st_meet : Stmt := topS 3
theorem sc_meet : FnScope ["one", "two", "three", "a", "b", "c"] ["one", "two", "three"] (defScope st_meet) := ⟨rfl, rfl, rfl, by decide +kernel, rfl, by decide +kernel, by decide +kernel⟩
def w_meet : DSt := wret (wopL o_tuple [(.E (wlc (izip3 (wvar 0) (wvar 1) (wvar 2)) (gtup 3 (gcons (gname 3) (gcons (gname 4) (gcons (gname 5) (gnil))))) (tyes) (wif (tcmp o_in (.N 3) (.E (wtup (wcons (wvar 4) (wcons (wvar 5) (wnil)))))) (wvar 3) (wvar 4)) [3, 4, 5]))])
theorem dv_meet {P : Program} {w : World} {K : PySem.W.Frag} {mg : Str → Option Value} {base : Heap} {f : Addr} (hz : ∀ x ∈ bn, mg x = none) (cdv : Value) (A : Around) (outer : List Env) (s : Shared) (H : Hp) (hr : Room 0 (A.deeper (envOfC "meet" (defScope st_meet) s.heap.objs.size f cdv))) (hgd : A.guards = some []) :
    MSs (cxOf CX0 P w K mg base ["one", "two", "three", "a", "b", "c"] "meet" (defScope st_meet) f cdv A outer s H E0).nox [] (defBody st_meet) w_meet :=
  have nd := sc_meet.nd
  (mss_one (ms_ret (me_callTy cm_tuple (hz "tuple" (by decide)) (mos_cons (MO.of (me_lc (own := [("a", 3), ("b", 4), ("c", 5)]) rfl nd (mi_zip3 (hz "zip" (by decide)) (mes_cons (me_var (i := 0)) (mes_cons (me_var (i := 1)) (mes_cons (me_var (i := 2)) mes_nil)))) (blkOk_by (N := ["one", "two", "three", "a", "b", "c"]) (sc := defScope st_meet) (by decide +kernel)) ⟨fun _ _ _ _ _ => (mg_tup rfl (mgs_cons (mg_name (i := 3) nd rfl (Or.inl rfl) (not_roC (by decide))) (mgs_cons (mg_name (i := 4) nd rfl (Or.inl rfl) (not_roC (by decide))) (mgs_cons (mg_name (i := 5) nd rfl (Or.inl rfl) (not_roC (by decide))) mgs_nil)))), fun _ _ _ _ _ => mts_nil, fun _ _ _ _ _ => (me_if (mt_cmp (om_in (u hr 65)) (mo_name (i := 3)) (MO.of (me_tup (mes_cons (me_var (i := 4)) (mes_cons (me_var (i := 5)) mes_nil))))) (me_var (i := 3)) (me_var (i := 4)))⟩)) mos_nil))))
abbrev st_beat : Stmt := topS 5
theorem sc_beat : FnScope ["stand", "ring", "before", "here", "after"] ["stand", "ring"] (defScope st_beat) := ⟨rfl, rfl, rfl, by decide +kernel, rfl, by decide +kernel, by decide +kernel⟩
def w_beat : DSt := wret (wlc (iseq (wcall S_threes [.V (wfz (wvar 0)), .V (wfz (wvar 1))])) (gtup 3 (gcons (gname 2) (gcons (gname 3) (gcons (gname 4) (gnil))))) (tyes) (wcall S_meet [.V (wfz (wvar 2)), .V (wfz (wvar 3)), .V (wfz (wvar 4))]) [2, 3, 4])
theorem dv_beat {P : Program} {w : World} {K : PySem.W.Frag} {mg : Str → Option Value} {base : Heap} {f : Addr} (hz : ∀ x ∈ bn, mg x = none) (h_threes : Has P w K mg base 1 2 "threes" ["things", "ring"] S_threes) (h_meet : Has P w K mg base 1 3 "meet" ["one", "two", "three"] S_meet) (cdv : Value) (A : Around) (outer : List Env) (s : Shared) (H : Hp) (hr : Room 1 (A.deeper (envOfC "beat" (defScope st_beat) s.heap.objs.size f cdv))) (hgd : A.guards = some []) :
    MSs (cxOf CX0 P w K mg base ["stand", "ring", "before", "here", "after"] "beat" (defScope st_beat) f cdv A outer s H E0).nox [] (defBody st_beat) w_beat :=
  have nd := sc_beat.nd
  (mss_one (ms_ret (me_lc (own := [("before", 2), ("here", 3), ("after", 4)]) rfl nd (mi_seq (me_callH h_threes (hr.mono (by decide)) hgd (mas_val (me_fz (me_var (i := 0))) (mas_val (me_fz (me_var (i := 1))) mas_nil)))) (blkOk_by (N := ["stand", "ring", "before", "here", "after"]) (sc := defScope st_beat) (by decide +kernel)) ⟨fun _ _ _ _ _ => (mg_tup rfl (mgs_cons (mg_name (i := 2) nd rfl (Or.inl rfl) (not_roC (by decide))) (mgs_cons (mg_name (i := 3) nd rfl (Or.inl rfl) (not_roC (by decide))) (mgs_cons (mg_name (i := 4) nd rfl (Or.inl rfl) (not_roC (by decide))) mgs_nil)))), fun _ _ _ _ _ => mts_nil, fun _ _ _ _ _ => (me_callH h_meet (hr.mono (by decide)) hgd (mas_val (me_fz (me_var (i := 2))) (mas_val (me_fz (me_var (i := 3))) (mas_val (me_fz (me_var (i := 4))) mas_nil))))⟩)))
abbrev st__law_begun : Stmt := topS 7
theorem sc__law_begun : FnScope ["_law_script"] ["_law_script"] (defScope st__law_begun) := ⟨rfl, rfl, rfl, by decide +kernel, rfl, by decide +kernel, by decide +kernel⟩
def w__law_begun : DSt := wret (wdK [.inr "cells", .inr "spot", .inr "left"] (wcons (wfz (worT (wsl (.N 0) wpn (wps (wc (.int 63)))) (wlst (wcons (wc (.int 0)) (wnil))))) (wcons (wfz (wc (.int 0))) (wcons (wfz (wc (.int 0))) (wnil)))))
theorem dv__law_begun {P : Program} {w : World} {K : PySem.W.Frag} {mg : Str → Option Value} {base : Heap} {f : Addr} (hz : ∀ x ∈ bn, mg x = none) (cdv : Value) (A : Around) (outer : List Env) (s : Shared) (H : Hp) (hr : Room 0 (A.deeper (envOfC "_law_begun" (defScope st__law_begun) s.heap.objs.size f cdv))) (hgd : A.guards = some []) :
    MSs (cxOf CX0 P w K mg base ["_law_script"] "_law_begun" (defScope st__law_begun) f cdv A outer s H E0).nox [] (defBody st__law_begun) w__law_begun :=
  have nd := sc__law_begun.nd
  (mss_one (ms_ret (me_dict (mps_cons (me_fz (me_orT (me_sl (mo_name (i := 0)) mp_none (mp_some me_int)) (me_lst (mes_cons me_int mes_nil)))) (mps_cons (me_fz me_int) (mps_cons (me_fz me_int) mps_nil))))))
abbrev st__law_draw : Stmt := topS 8
theorem sc__law_draw : FnScope ["_law_tape", "_law_many", "_law_spot_here", "_law_most", "_law_cell", "_law_found"] ["_law_tape", "_law_many"] (defScope st__law_draw) := ⟨rfl, rfl, rfl, by decide +kernel, rfl, by decide +kernel, by decide +kernel⟩
def w__law_draw : DSt := wseq (wifS (tcmp o_lt (.E (wop2 o_ix (.N 0) (.E (wc (.str "left"))))) (.N 1)) (wseq (wpar 2 3 (wcons (wop2 o_ix (.N 0) (.E (wc (.str "spot")))) (wcons (wopL o_len [(.E (wop2 o_ix (.N 0) (.E (wc (.str "cells")))))]) (wnil))))
    (wseq (wasg (gtup 2 (gcons (gname 4) (gcons (gixP (plN 0) (.c (.str "spot")) d_set) (gnil)))) (wtup (wcons (wop2 o_ix (.E (wop2 o_ix (.N 0) (.E (wc (.str "cells"))))) (.E (wop2 o_mod (.E (wopL o_int [(.N 2)])) (.N 3)))) (wcons (wop2 o_add (.N 2) (.E (wc (.int 1)))) (wnil)))))
    (wseq (wasg (gixP (plN 0) (.c (.str "left")) d_set) (wop2 o_mod (.E (wopL o_int [(.E (wop2 o_pow (.E (wop2 o_add (.E (wop2 o_add (.E (wop2 o_mod (.E (wopL o_int [(.N 4)])) (.E (wc (.int 2147483647))))) (.E (wop2 o_mul (.E (wc (.int 69621))) (.N 2))))) (.E (wc (.int 48271))))) (.E (wc (.int 17)))))])) (.E (wop2 o_add (.E (wop2 o_pow (.E (wc (.int 10))) (.E (wc (.int 50))))) (.E (wc (.int 151)))))))
    (wifS (tand (tcmp o_ge (.N 4) (.E (wop2 o_pow (.E (wc (.int 10))) (.E (wc (.int 18)))))) (tcmp o_lt (.N 2) (.N 3))) (wasg (gixP (plN 0) (.c (.str "left")) d_set) (wop2 o_sub (.N 4) (.E (wop2 o_pow (.E (wc (.int 10))) (.E (wc (.int 18))))))) (wnext))))) (wnext))
    (wseq (wasg (gtup 2 (gcons (gname 5) (gcons (gixP (plN 0) (.c (.str "left")) d_set) (gnil)))) (wtup (wcons (wop2 o_mod (.E (wopL o_int [(.E (wop2 o_ix (.N 0) (.E (wc (.str "left")))))])) (.N 1)) (wcons (wop2 o_fdiv (.E (wop2 o_ix (.N 0) (.E (wc (.str "left"))))) (.N 1)) (wnil)))))
    (wret (wmov 5)))
theorem dv__law_draw {P : Program} {w : World} {K : PySem.W.Frag} {mg : Str → Option Value} {base : Heap} {f : Addr} (hz : ∀ x ∈ bn, mg x = none) (cdv : Value) (A : Around) (outer : List Env) (s : Shared) (H : Hp) (hr : Room 0 (A.deeper (envOfC "_law_draw" (defScope st__law_draw) s.heap.objs.size f cdv))) (hgd : A.guards = some []) :
    MSs (cxOf CX0 P w K mg base ["_law_tape", "_law_many", "_law_spot_here", "_law_most", "_law_cell", "_law_found"] "_law_draw" (defScope st__law_draw) f cdv A outer s H E0).nox [0] (defBody st__law_draw) w__law_draw :=
  have nd := sc__law_draw.nd
  (mss_cons (ms_if (mt_cmp om_lt (MO.of (me_ix (im_ix (u hr 1)) (mo_name (i := 0)) (MO.of me_str))) (mo_name (i := 1))) (mss_cons (ms_par (i := 2) (j := 3) (mes_cons (me_ix (im_ix (u hr 1)) (mo_name (i := 0)) (MO.of me_str)) (mes_cons (me_callB cm_len (hz "len" (by decide)) (mos_cons (MO.of (me_ix (im_ix (u hr 1)) (mo_name (i := 0)) (MO.of me_str))) mos_nil)) mes_nil)) rfl nd rfl rfl (by decide))
    (mss_cons (ms_asg (me_tup (mes_cons (me_ix (im_ix (u hr 1)) (MO.of (me_ix (im_ix (u hr 1)) (mo_name (i := 0)) (MO.of me_str))) (MO.of (me_bin om_mod (MO.of (me_callTy cm_int (hz "int" (by decide)) (mos_cons (mo_name (i := 2)) mos_nil))) (mo_name (i := 3))))) (mes_cons (me_bin om_add (mo_name (i := 2)) (MO.of me_int)) mes_nil))) (mg_tup rfl (mgs_cons (mg_name (i := 4) nd rfl (Or.inl rfl)) (mgs_cons (mg_ixP (sd_set (u hr 1)) (mpl_name (i := 0)) mk_str) mgs_nil))))
    (mss_cons (ms_asg (me_bin om_mod (MO.of (me_callTy cm_int (hz "int" (by decide)) (mos_cons (MO.of (me_bin om_pow (MO.of (me_bin om_add (MO.of (me_bin om_add (MO.of (me_bin om_mod (MO.of (me_callTy cm_int (hz "int" (by decide)) (mos_cons (mo_name (i := 4)) mos_nil))) (MO.of me_int))) (MO.of (me_bin om_mul (MO.of me_int) (mo_name (i := 2)))))) (MO.of me_int))) (MO.of me_int))) mos_nil))) (MO.of (me_bin om_add (MO.of (me_bin om_pow (MO.of me_int) (MO.of me_int))) (MO.of me_int)))) (mg_ixP (sd_set (u hr 1)) (mpl_name (i := 0)) mk_str))
    (mss_one (ms_if (mt_mw (mw_and (mt_cmp om_ge (mo_name (i := 4)) (MO.of (me_bin om_pow (MO.of me_int) (MO.of me_int)))) (mw_1 (mt_cmp om_lt (mo_name (i := 2)) (mo_name (i := 3)))))) (mss_one (ms_asg (me_bin om_sub (mo_name (i := 4)) (MO.of (me_bin om_pow (MO.of me_int) (MO.of me_int)))) (mg_ixP (sd_set (u hr 1)) (mpl_name (i := 0)) mk_str))) mss_nil))))) mss_nil)
    (mss_cons (ms_asg (me_tup (mes_cons (me_bin om_mod (MO.of (me_callTy cm_int (hz "int" (by decide)) (mos_cons (MO.of (me_ix (im_ix (u hr 1)) (mo_name (i := 0)) (MO.of me_str))) mos_nil))) (mo_name (i := 1))) (mes_cons (me_bin om_fdiv (MO.of (me_ix (im_ix (u hr 1)) (mo_name (i := 0)) (MO.of me_str))) (mo_name (i := 1))) mes_nil))) (mg_tup rfl (mgs_cons (mg_name (i := 5) nd rfl (Or.inl rfl)) (mgs_cons (mg_ixP (sd_set (u hr 1)) (mpl_name (i := 0)) mk_str) mgs_nil))))
    (mss_one (ms_ret (me_mov (i := 5))))))
abbrev st__law_pick : Stmt := topS 9
theorem sc__law_pick : FnScope ["_law_tape", "_law_some"] ["_law_tape", "_law_some"] (defScope st__law_pick) := ⟨rfl, rfl, rfl, by decide +kernel, rfl, by decide +kernel, by decide +kernel⟩
def w__law_pick : DSt := wret (wop2 o_ix (.N 1) (.E (wcall S__law_draw [.L (plN 0), .V (wfz (wopL o_len [(.N 1)]))])))
theorem dv__law_pick {P : Program} {w : World} {K : PySem.W.Frag} {mg : Str → Option Value} {base : Heap} {f : Addr} (hz : ∀ x ∈ bn, mg x = none) (h__law_draw : Has P w K mg base 1 2 "_law_draw" ["_law_tape", "_law_many"] S__law_draw) (cdv : Value) (A : Around) (outer : List Env) (s : Shared) (H : Hp) (hr : Room 1 (A.deeper (envOfC "_law_pick" (defScope st__law_pick) s.heap.objs.size f cdv))) (hgd : A.guards = some []) :
    MSs (cxOf CX0 P w K mg base ["_law_tape", "_law_some"] "_law_pick" (defScope st__law_pick) f cdv A outer s H E0).nox [0] (defBody st__law_pick) w__law_pick :=
  have nd := sc__law_pick.nd
  (mss_one (ms_ret (me_ix (im_ix (u hr 1)) (mo_name (i := 1)) (MO.of (me_callH h__law_draw (hr.mono (by decide)) hgd (mas_lend (mpl_name (i := 0)) (mas_val (me_fz (me_callB cm_len (hz "len" (by decide)) (mos_cons (mo_name (i := 1)) mos_nil))) mas_nil)))))))
abbrev st__law_done : Stmt := topS 10
theorem sc__law_done : FnScope ["_law_tape", "_law_causes", "_law_clashes", "_law_done_here", "_law_share", "_law_deed", "_law_is_let", "_law_one"] ["_law_tape", "_law_causes", "_law_clashes"] (defScope st__law_done) := ⟨rfl, rfl, rfl, by decide +kernel, rfl, by decide +kernel, by decide +kernel⟩
def w__law_done : DSt := wseq (wasg (gtup 2 (gcons (gname 3) (gcons (gname 4) (gnil)))) (wtup (wcons (wlst (wnil)) (wcons (wcall S__law_pick [.L (plN 0), .V (wfz (wlst (wcons (wc (.int 1)) (wcons (wc (.int 2)) (wcons (wc (.int 3)) (wnil))))))]) (wnil)))))
    (wseq (wfor (irange1 (.E (wopL o_len [(.N 1)]))) (gname 5) (wseq (wasg (gname 6) (wop2 o_eq (.E (wlc (iseq (wop2 o_ix (.N 1) (.N 5))) (gname 7) (tcmp o_nin (.N 7) (.N 3)) (wvar 7) [7])) (.E (wlst (wnil)))))
    (wseq (wasg (gname 6) (wand (wvar 6) (wop2 o_eq (.E (wlc (iseq (wop2 o_ix (.N 2) (.N 5))) (gname 7) (tcmp o_in (.N 7) (.N 3)) (wvar 7) [7])) (.E (wlst (wnil))))))
    (wifS (tand (tcmp o_gt (.E (wcall S__law_draw [.L (plN 0), .V (wfz (wop2 o_add (.N 4) (.E (wc (.int 1)))))])) (.E (wc (.int 0)))) (tval (wvar 6))) (wdrop (wmetN 3 "list" d_append (wcons (wfz (wvar 5)) (wnil)))) (wnext)))))
    (wret (wmov 3)))
theorem dv__law_done {P : Program} {w : World} {K : PySem.W.Frag} {mg : Str → Option Value} {base : Heap} {f : Addr} (hz : ∀ x ∈ bn, mg x = none) (h__law_pick : Has P w K mg base 2 2 "_law_pick" ["_law_tape", "_law_some"] S__law_pick) (h__law_draw : Has P w K mg base 1 2 "_law_draw" ["_law_tape", "_law_many"] S__law_draw) (cdv : Value) (A : Around) (outer : List Env) (s : Shared) (H : Hp) (hr : Room 2 (A.deeper (envOfC "_law_done" (defScope st__law_done) s.heap.objs.size f cdv))) (hgd : A.guards = some []) :
    MSs (cxOf CX0 P w K mg base ["_law_tape", "_law_causes", "_law_clashes", "_law_done_here", "_law_share", "_law_deed", "_law_is_let", "_law_one"] "_law_done" (defScope st__law_done) f cdv A outer s H E0).nox [0, 1, 2] (defBody st__law_done) w__law_done :=
  have nd := sc__law_done.nd
  (mss_cons (ms_asg (me_tup (mes_cons (me_lst mes_nil) (mes_cons (me_callH h__law_pick (hr.mono (by decide)) hgd (mas_lend (mpl_name (i := 0)) (mas_val (me_fz (me_lst (mes_cons me_int (mes_cons me_int (mes_cons me_int mes_nil))))) mas_nil))) mes_nil))) (mg_tup rfl (mgs_cons (mg_name (i := 3) nd rfl (Or.inr rfl)) (mgs_cons (mg_name (i := 4) nd rfl (Or.inl rfl)) mgs_nil))))
    (mss_cons (ms_for (mi_range1 (hz "range" (by decide)) (mos_cons (MO.of (me_callB cm_len (hz "len" (by decide)) (mos_cons (mo_name (i := 1)) mos_nil))) mos_nil)) (mg_name (i := 5) nd rfl (Or.inl rfl)) (mss_cons (ms_asgN (i := 6) (me_cmp (om_eq (u hr 64)) (MO.of (me_lc (own := [("_law_one", 7)]) rfl nd (mi_seq (me_ix (im_ix (u hr 1)) (mo_name (i := 1)) (mo_name (i := 5)))) (blkOk_by (N := ["_law_tape", "_law_causes", "_law_clashes", "_law_done_here", "_law_share", "_law_deed", "_law_is_let", "_law_one"]) (sc := defScope st__law_done) (by decide +kernel)) ⟨fun _ _ _ _ _ => (mg_name (i := 7) nd rfl (Or.inl rfl) (not_roC (by decide))), fun _ _ _ _ _ => (mts_one (mt_cmp (om_nin (u hr 65)) (mo_name (i := 7)) (mo_name (i := 3)))), fun _ _ _ _ _ => (me_var (i := 7))⟩)) (MO.of (me_lst mes_nil))) nd rfl (Or.inl rfl))
    (mss_cons (ms_asgN (i := 6) (me_and (me_var (i := 6)) (me_one (me_cmp (om_eq (u hr 64)) (MO.of (me_lc (own := [("_law_one", 7)]) rfl nd (mi_seq (me_ix (im_ix (u hr 1)) (mo_name (i := 2)) (mo_name (i := 5)))) (blkOk_by (N := ["_law_tape", "_law_causes", "_law_clashes", "_law_done_here", "_law_share", "_law_deed", "_law_is_let", "_law_one"]) (sc := defScope st__law_done) (by decide +kernel)) ⟨fun _ _ _ _ _ => (mg_name (i := 7) nd rfl (Or.inl rfl) (not_roC (by decide))), fun _ _ _ _ _ => (mts_one (mt_cmp (om_in (u hr 65)) (mo_name (i := 7)) (mo_name (i := 3)))), fun _ _ _ _ _ => (me_var (i := 7))⟩)) (MO.of (me_lst mes_nil))))) nd rfl (Or.inl rfl))
    (mss_one (ms_if (mt_mw (mw_and (mt_cmp om_gt (MO.of (me_callH h__law_draw (hr.mono (by decide)) hgd (mas_lend (mpl_name (i := 0)) (mas_val (me_fz (me_bin om_add (mo_name (i := 4)) (MO.of me_int))) mas_nil)))) (MO.of me_int)) (mw_1 (mt_val (me_var (i := 6)))))) (mss_one (ms_expr (me_metN (i := 3) PySem.F.plainAttrs_list PySem.F.slot_list_append PySem.F.type_list_append md_append (mes_cons (me_fz (me_var (i := 5))) mes_nil)))) mss_nil)))) PassesOwn.never rfl)
    (mss_one (ms_ret (me_mov (i := 3))))))
abbrev st__law_book : Stmt := topS 11
theorem sc__law_book : FnScope ["_law_tape", "_law_many", "_law_book_here", "_law_left", "_law_near", "_law_far", "_law_deed", "_law_done_here", "_law_some", "_law_one"] ["_law_tape", "_law_many"] (defScope st__law_book) := ⟨rfl, rfl, rfl, by decide +kernel, rfl, by decide +kernel, by decide +kernel⟩
def w__law_book : DSt := wseq (wasg (gtup 2 (gcons (gname 2) (gcons (gname 3) (gnil)))) (wtup (wcons (wdK [.inr "causes", .inr "clashes", .inr "undone"] (wcons (wlst (wnil)) (wcons (wlst (wnil)) (wcons (wlst (wnil)) (wnil))))) (wcons (wlrg2 (wc (.int 1)) (wop2 o_add (.N 1) (.E (wc (.int 1))))) (wnil)))))
    (wseq (wasg (gtup 2 (gcons (gname 4) (gcons (gname 5) (gnil)))) (wtup (wcons (wcall S__law_pick [.L (plN 0), .V (wfz (wlst (wcons (wc (.int 2)) (wcons (wc (.int 3)) (wcons (wc (.int 5)) (wnil))))))]) (wcons (wcall S__law_pick [.L (plN 0), .V (wfz (wlst (wcons (wc (.int 2)) (wcons (wc (.int 3)) (wcons (wc (.int 6)) (wcons (wc (.int 99)) (wnil)))))))]) (wnil)))))
    (wseq (wfor (irange1 (.N 1)) (gname 6) (wseq (wasg (gname 7) (wcall S__law_done [.L (plN 0), .L (plIx (plN 2) (.c (.str "causes"))), .L (plIx (plN 2) (.c (.str "clashes")))]))
    (wseq (wasg (gname 8) (wlc (iseq (wvar 7)) (gname 9) (tcmp o_eq (.E (wcall S__law_draw [.L (plN 0), .V (wfz (wvar 4))])) (.E (wc (.int 0)))) (wvar 9) [9]))
    (wseq (wasg (gname 8) (wop2 o_add (.N 8) (.E (wsumL (wlc (iseq (wvar 8)) (gname 9) (tyes) (wplv (plIx (plIx (plN 2) (.c (.str "causes"))) (.n 9))) [9])))))
    (wseq (wdrop (wmetP (plIx (plN 2) (.c (.str "causes"))) "list" d_append (wcons (wfz (wlc (irange1 (.N 6)) (gname 9) (tcmp o_in (.N 9) (.N 8)) (wvar 9) [9])) (wnil))))
    (wseq (wdrop (wmetP (plIx (plN 2) (.c (.str "clashes"))) "list" d_append (wcons (wfz (wlc (irange1 (.N 6)) (gname 9) (tand (tcmp o_nin (.N 9) (.N 8)) (tcmp o_eq (.E (wcall S__law_draw [.L (plN 0), .V (wfz (wvar 5))])) (.E (wc (.int 0))))) (wvar 9) [9])) (wnil))))
    (wdrop (wmetP (plIx (plN 2) (.c (.str "undone"))) "list" d_append (wcons (wfz (wop2 o_mul (.E (wmetN 3 "list" d_popAt (wcons (wcall S__law_draw [.L (plN 0), .V (wfz (wopL o_len [(.N 3)]))]) (wnil)))) (.E (wcall S__law_pick [.L (plN 0), .V (wfz (wlst (wcons (wc (.int 1)) (wcons (wc (.int 1)) (wcons (wop1 o_neg (.E (wc (.int 1)))) (wnil))))))])))) (wnil))))))))))
    (wret (wmov 2))))
theorem dv__law_book {P : Program} {w : World} {K : PySem.W.Frag} {mg : Str → Option Value} {base : Heap} {f : Addr} (hz : ∀ x ∈ bn, mg x = none) (h__law_pick : Has P w K mg base 2 2 "_law_pick" ["_law_tape", "_law_some"] S__law_pick) (h__law_done : Has P w K mg base 3 3 "_law_done" ["_law_tape", "_law_causes", "_law_clashes"] S__law_done) (h__law_draw : Has P w K mg base 1 2 "_law_draw" ["_law_tape", "_law_many"] S__law_draw) (cdv : Value) (A : Around) (outer : List Env) (s : Shared) (H : Hp) (hr : Room 3 (A.deeper (envOfC "_law_book" (defScope st__law_book) s.heap.objs.size f cdv))) (hgd : A.guards = some []) :
    MSs (cxOf CX0 P w K mg base ["_law_tape", "_law_many", "_law_book_here", "_law_left", "_law_near", "_law_far", "_law_deed", "_law_done_here", "_law_some", "_law_one"] "_law_book" (defScope st__law_book) f cdv A outer s H E0).nox [0] (defBody st__law_book) w__law_book :=
  have nd := sc__law_book.nd
  (mss_cons (ms_asg (me_tup (mes_cons (me_dict (mps_cons (me_lst mes_nil) (mps_cons (me_lst mes_nil) (mps_cons (me_lst mes_nil) mps_nil)))) (mes_cons (me_lrg2 rfl (hz "list" (by decide)) (hz "range" (by decide)) me_int (me_bin om_add (mo_name (i := 1)) (MO.of me_int))) mes_nil))) (mg_tup rfl (mgs_cons (mg_name (i := 2) nd rfl (Or.inr rfl)) (mgs_cons (mg_name (i := 3) nd rfl (Or.inl rfl)) mgs_nil))))
    (mss_cons (ms_asg (me_tup (mes_cons (me_callH h__law_pick (hr.mono (by decide)) hgd (mas_lend (mpl_name (i := 0)) (mas_val (me_fz (me_lst (mes_cons me_int (mes_cons me_int (mes_cons me_int mes_nil))))) mas_nil))) (mes_cons (me_callH h__law_pick (hr.mono (by decide)) hgd (mas_lend (mpl_name (i := 0)) (mas_val (me_fz (me_lst (mes_cons me_int (mes_cons me_int (mes_cons me_int (mes_cons me_int mes_nil)))))) mas_nil))) mes_nil))) (mg_tup rfl (mgs_cons (mg_name (i := 4) nd rfl (Or.inr rfl)) (mgs_cons (mg_name (i := 5) nd rfl (Or.inr rfl)) mgs_nil))))
    (mss_cons (ms_for (mi_range1 (hz "range" (by decide)) (mos_cons (mo_name (i := 1)) mos_nil)) (mg_name (i := 6) nd rfl (Or.inl rfl)) (mss_cons (ms_asgN (i := 7) (me_callH h__law_done (hr.mono (by decide)) hgd (mas_lend (mpl_name (i := 0)) (mas_lend (mpl_ix (u hr 1) (mpl_name (i := 2)) mk_str) (mas_lend (mpl_ix (u hr 1) (mpl_name (i := 2)) mk_str) mas_nil)))) nd rfl (Or.inl rfl))
    (mss_cons (ms_asgN (i := 8) (me_lc (own := [("_law_one", 9)]) rfl nd (mi_seq (me_var (i := 7))) (blkOk_by (N := ["_law_tape", "_law_many", "_law_book_here", "_law_left", "_law_near", "_law_far", "_law_deed", "_law_done_here", "_law_some", "_law_one"]) (sc := defScope st__law_book) (by decide +kernel)) ⟨fun _ _ _ _ _ => (mg_name (i := 9) nd rfl (Or.inl rfl) (not_roC (by decide))), fun _ _ _ _ _ => (mts_one (mt_cmp (om_eq (u hr 64)) (MO.of (me_callH h__law_draw (hr.mono (by decide)) hgd (mas_lend (mpl_name (i := 0)) (mas_val (me_fz (me_var (i := 4))) mas_nil)))) (MO.of me_int))), fun _ _ _ _ _ => (me_var (i := 9))⟩) nd rfl (Or.inr rfl))
    (mss_cons (ms_asgN (i := 8) (me_bin om_add (mo_name (i := 8)) (MO.of (me_sumL rfl (hz "sum" (by decide)) (mes_cons (me_lc (own := [("_law_one", 9)]) rfl nd (mi_seq (me_var (i := 8))) (blkOk_by (N := ["_law_tape", "_law_many", "_law_book_here", "_law_left", "_law_near", "_law_far", "_law_deed", "_law_done_here", "_law_some", "_law_one"]) (sc := defScope st__law_book) (by decide +kernel)) ⟨fun _ _ _ _ _ => (mg_name (i := 9) nd rfl (Or.inl rfl) (not_roC (by decide))), fun _ _ _ _ _ => mts_nil, fun _ _ _ _ _ => (me_plv (mpl_ix (u hr 1) (mpl_ix (u hr 1) (mpl_name (i := 2)) mk_str) (mk_name (i := 9))))⟩) (mes_cons (me_lst mes_nil) mes_nil))))) nd rfl (Or.inr rfl))
    (mss_cons (ms_expr (me_metP (mpl_ix (u hr 1) (mpl_name (i := 2)) mk_str) PySem.F.plainAttrs_list PySem.F.slot_list_append PySem.F.type_list_append md_append (mes_cons (me_fz (me_lc (own := [("_law_one", 9)]) rfl nd (mi_range1 (hz "range" (by decide)) (mos_cons (mo_name (i := 6)) mos_nil)) (blkOk_by (N := ["_law_tape", "_law_many", "_law_book_here", "_law_left", "_law_near", "_law_far", "_law_deed", "_law_done_here", "_law_some", "_law_one"]) (sc := defScope st__law_book) (by decide +kernel)) ⟨fun _ _ _ _ _ => (mg_name (i := 9) nd rfl (Or.inl rfl) (not_roC (by decide))), fun _ _ _ _ _ => (mts_one (mt_cmp (om_in (u hr 65)) (mo_name (i := 9)) (mo_name (i := 8)))), fun _ _ _ _ _ => (me_var (i := 9))⟩)) mes_nil)))
    (mss_cons (ms_expr (me_metP (mpl_ix (u hr 1) (mpl_name (i := 2)) mk_str) PySem.F.plainAttrs_list PySem.F.slot_list_append PySem.F.type_list_append md_append (mes_cons (me_fz (me_lc (own := [("_law_one", 9)]) rfl nd (mi_range1 (hz "range" (by decide)) (mos_cons (mo_name (i := 6)) mos_nil)) (blkOk_by (N := ["_law_tape", "_law_many", "_law_book_here", "_law_left", "_law_near", "_law_far", "_law_deed", "_law_done_here", "_law_some", "_law_one"]) (sc := defScope st__law_book) (by decide +kernel)) ⟨fun _ _ _ _ _ => (mg_name (i := 9) nd rfl (Or.inl rfl) (not_roC (by decide))), fun _ _ _ _ _ => (mts_one (mt_mw (mw_and (mt_cmp (om_nin (u hr 65)) (mo_name (i := 9)) (mo_name (i := 8))) (mw_1 (mt_cmp (om_eq (u hr 64)) (MO.of (me_callH h__law_draw (hr.mono (by decide)) hgd (mas_lend (mpl_name (i := 0)) (mas_val (me_fz (me_var (i := 5))) mas_nil)))) (MO.of me_int)))))), fun _ _ _ _ _ => (me_var (i := 9))⟩)) mes_nil)))
    (mss_one (ms_expr (me_metP (mpl_ix (u hr 1) (mpl_name (i := 2)) mk_str) PySem.F.plainAttrs_list PySem.F.slot_list_append PySem.F.type_list_append md_append (mes_cons (me_fz (me_bin om_mul (MO.of (me_metN (i := 3) PySem.F.plainAttrs_list PySem.F.slot_list_pop PySem.F.type_list_pop md_popAt (mes_cons (me_callH h__law_draw (hr.mono (by decide)) hgd (mas_lend (mpl_name (i := 0)) (mas_val (me_fz (me_callB cm_len (hz "len" (by decide)) (mos_cons (mo_name (i := 3)) mos_nil))) mas_nil))) mes_nil))) (MO.of (me_callH h__law_pick (hr.mono (by decide)) hgd (mas_lend (mpl_name (i := 0)) (mas_val (me_fz (me_lst (mes_cons me_int (mes_cons me_int (mes_cons (me_un um_neg (MO.of me_int)) mes_nil))))) mas_nil)))))) mes_nil))))))))) PassesOwn.never rfl)
    (mss_one (ms_ret (me_mov (i := 2)))))))
abbrev st__law_spot : Stmt := topS 12
theorem sc__law_spot : FnScope ["_law_tape", "_law_book_here", "_law_done_here", "_law_sides", "_law_deed"] ["_law_tape", "_law_book_here"] (defScope st__law_spot) := ⟨rfl, rfl, rfl, by decide +kernel, rfl, by decide +kernel, by decide +kernel⟩
def w__law_spot : DSt := wseq (wasg (gname 2) (wcall S__law_done [.L (plN 0), .L (plIx (plN 1) (.c (.str "causes"))), .L (plIx (plN 1) (.c (.str "clashes")))]))
    (wseq (wasg (gname 3) (wlc (irange1 (.E (wopP o_len (plIx (plN 1) (.c (.str "undone")))))) (gname 4) (tyes) (wif (tcmp o_in (.N 4) (.N 2)) (wop2 o_sub (.E (wc (.int 0))) (.E (wplv (plIx (plIx (plN 1) (.c (.str "undone"))) (.n 4))))) (wplv (plIx (plIx (plN 1) (.c (.str "undone"))) (.n 4)))) [4]))
    (wret (wopL o_tuple [(.E (wop1 o_sortAbs (.N 3)))])))
theorem dv__law_spot {P : Program} {w : World} {K : PySem.W.Frag} {mg : Str → Option Value} {base : Heap} {f : Addr} (hz : ∀ x ∈ bn, mg x = none) (h__law_done : Has P w K mg base 3 3 "_law_done" ["_law_tape", "_law_causes", "_law_clashes"] S__law_done) (cdv : Value) (A : Around) (outer : List Env) (s : Shared) (H : Hp) (hr : Room 3 (A.deeper (envOfC "_law_spot" (defScope st__law_spot) s.heap.objs.size f cdv))) (hgd : A.guards = some []) :
    MSs (cxOf CX0 P w K mg base ["_law_tape", "_law_book_here", "_law_done_here", "_law_sides", "_law_deed"] "_law_spot" (defScope st__law_spot) f cdv A outer s H E0).nox [0, 1] (defBody st__law_spot) w__law_spot :=
  have nd := sc__law_spot.nd
  (mss_cons (ms_asgN (i := 2) (me_callH h__law_done (hr.mono (by decide)) hgd (mas_lend (mpl_name (i := 0)) (mas_lend (mpl_ix (u hr 1) (mpl_name (i := 1)) mk_str) (mas_lend (mpl_ix (u hr 1) (mpl_name (i := 1)) mk_str) mas_nil)))) nd rfl (Or.inr rfl))
    (mss_cons (ms_setLc (i := 3) (own := [("_law_deed", 4)]) rfl nd rfl (by decide) rfl (sw_true rfl rfl rfl (by decide +kernel)) (mi_range1 (hz "range" (by decide)) (mos_cons (MO.of (me_callBP cm_len (hz "len" (by decide)) (mpl_ix (u hr 1) (mpl_name (i := 1)) mk_str))) mos_nil)) (blkOk_by (N := ["_law_tape", "_law_book_here", "_law_done_here", "_law_sides", "_law_deed"]) (sc := defScope st__law_spot) (by decide +kernel)) ⟨fun _ _ _ _ _ => (mg_name (i := 4) nd rfl (Or.inl rfl) (not_roC (by decide))), fun _ _ _ _ _ => mts_nil, fun _ _ _ _ _ => (me_if (mt_cmp (om_in (u hr 65)) (mo_name (i := 4)) (mo_name (i := 2))) (me_bin om_sub (MO.of me_int) (MO.of (me_plv (mpl_ix (u hr 1) (mpl_ix (u hr 1) (mpl_name (i := 1)) mk_str) (mk_name (i := 4)))))) (me_plv (mpl_ix (u hr 1) (mpl_ix (u hr 1) (mpl_name (i := 1)) mk_str) (mk_name (i := 4)))))⟩)
    (mss_one (ms_ret (me_callTy cm_tuple (hz "tuple" (by decide)) (mos_cons (MO.of (me_sortAbs (u hr 10) (hz "sorted" (by decide)) (hz "abs" (by decide)) (mo_name (i := 3)))) mos_nil))))))
abbrev st__law_stand : Stmt := topS 13
theorem sc__law_stand : FnScope ["_law_tape", "_law_book_here", "_law_many", "_law_found", "_law_pair", "_law_share", "_law_k"] ["_law_tape", "_law_book_here", "_law_many"] (defScope st__law_stand) := ⟨rfl, rfl, rfl, by decide +kernel, rfl, by decide +kernel, by decide +kernel⟩
def w__law_stand : DSt := wseq (wpar3 3 4 5 (wcons (wlst (wnil)) (wcons (wlc (irange1 (.E (wc (.int 2)))) (gname 6) (tyes) (wcall S__law_spot [.L (plN 0), .L (plN 1)]) [6]) (wcons (wcall S__law_pick [.L (plN 0), .V (wfz (wlst (wcons (wc (.int 1)) (wcons (wc (.int 3)) (wcons (wc (.int 12)) (wnil))))))]) (wnil)))))
    (wseq (wfor (irange1 (.N 2)) (gname 6) (wifS (tcmp o_eq (.E (wcall S__law_draw [.L (plN 0), .V (wfz (wvar 5))])) (.E (wc (.int 0)))) (wdrop (wmetN 3 "list" d_append (wcons (wfz (wcallZ S__law_pick 0 [.V (wfz (wop2 o_add (.E (wsl (.N 3) (wps (wop1 o_neg (.E (wc (.int 1))))) wpn)) (.E (wop2 o_mul (.E (wlst (wcons (wcall S__law_spot [.L (plN 0), .L (plN 1)]) (wnil)))) (.E (wc (.int 3)))))))])) (wnil)))) (wdrop (wmetN 3 "list" d_append (wcons (wfz (wop2 o_ix (.N 4) (.E (wop2 o_mod (.E (wopL o_int [(.N 6)])) (.E (wc (.int 2))))))) (wnil))))))
    (wret (wmov 3)))
theorem dv__law_stand {P : Program} {w : World} {K : PySem.W.Frag} {mg : Str → Option Value} {base : Heap} {f : Addr} (hz : ∀ x ∈ bn, mg x = none) (h__law_pick : Has P w K mg base 2 2 "_law_pick" ["_law_tape", "_law_some"] S__law_pick) (h__law_spot : Has P w K mg base 4 2 "_law_spot" ["_law_tape", "_law_book_here"] S__law_spot) (h__law_draw : Has P w K mg base 1 2 "_law_draw" ["_law_tape", "_law_many"] S__law_draw) (cdv : Value) (A : Around) (outer : List Env) (s : Shared) (H : Hp) (hr : Room 4 (A.deeper (envOfC "_law_stand" (defScope st__law_stand) s.heap.objs.size f cdv))) (hgd : A.guards = some []) :
    MSs (cxOf CX0 P w K mg base ["_law_tape", "_law_book_here", "_law_many", "_law_found", "_law_pair", "_law_share", "_law_k"] "_law_stand" (defScope st__law_stand) f cdv A outer s H E0).nox [0, 1] (defBody st__law_stand) w__law_stand :=
  have nd := sc__law_stand.nd
  (mss_cons (ms_par3 (i := 3) (j := 4) (l := 5) (mes_cons (me_lst mes_nil) (mes_cons (me_lc (own := [("_law_k", 6)]) rfl nd (mi_range1 (hz "range" (by decide)) (mos_cons (MO.of me_int) mos_nil)) (blkOk_by (N := ["_law_tape", "_law_book_here", "_law_many", "_law_found", "_law_pair", "_law_share", "_law_k"]) (sc := defScope st__law_stand) (by decide +kernel)) ⟨fun _ _ _ _ _ => (mg_name (i := 6) nd rfl (Or.inl rfl) (not_roC (by decide))), fun _ _ _ _ _ => mts_nil, fun _ _ _ _ _ => (me_callH h__law_spot (hr.mono (by decide)) hgd (mas_lend (mpl_name (i := 0)) (mas_lend (mpl_name (i := 1)) mas_nil)))⟩) (mes_cons (me_callH h__law_pick (hr.mono (by decide)) hgd (mas_lend (mpl_name (i := 0)) (mas_val (me_fz (me_lst (mes_cons me_int (mes_cons me_int (mes_cons me_int mes_nil))))) mas_nil))) mes_nil))) rfl nd rfl rfl rfl (by decide) (by decide) (by decide))
    (mss_cons (ms_for (mi_range1 (hz "range" (by decide)) (mos_cons (mo_name (i := 2)) mos_nil)) (mg_name (i := 6) nd rfl (Or.inl rfl)) (mss_one (ms_if (mt_cmp (om_eq (u hr 64)) (MO.of (me_callH h__law_draw (hr.mono (by decide)) hgd (mas_lend (mpl_name (i := 0)) (mas_val (me_fz (me_var (i := 5))) mas_nil)))) (MO.of me_int)) (mss_one (ms_expr (me_metN (i := 3) PySem.F.plainAttrs_list PySem.F.slot_list_append PySem.F.type_list_append md_append (mes_cons (me_fz (me_callZ (i := 0) h__law_pick (hr.mono (by decide)) hgd (mas_val (me_fz (me_bin om_add (MO.of (me_sl (mo_name (i := 3)) (mp_some (me_un um_neg (MO.of me_int))) mp_none)) (MO.of (me_bin om_mul (MO.of (me_lst (mes_cons (me_callH h__law_spot (hr.mono (by decide)) hgd (mas_lend (mpl_name (i := 0)) (mas_lend (mpl_name (i := 1)) mas_nil))) mes_nil))) (MO.of me_int))))) mas_nil))) mes_nil)))) (mss_one (ms_expr (me_metN (i := 3) PySem.F.plainAttrs_list PySem.F.slot_list_append PySem.F.type_list_append md_append (mes_cons (me_fz (me_ix (im_ix (u hr 1)) (mo_name (i := 4)) (MO.of (me_bin om_mod (MO.of (me_callTy cm_int (hz "int" (by decide)) (mos_cons (mo_name (i := 6)) mos_nil))) (MO.of me_int))))) mes_nil)))))) PassesOwn.never rfl)
    (mss_one (ms_ret (me_mov (i := 3))))))
abbrev st__law_kind : Stmt := topS 14
theorem sc__law_kind : FnScope ["_law_tape", "_law_stand_here"] ["_law_tape", "_law_stand_here"] (defScope st__law_kind) := ⟨rfl, rfl, rfl, by decide +kernel, rfl, by decide +kernel, by decide +kernel⟩
def w__law_kind : DSt := wret (wand (wop2 o_gt (.E (wopL o_len [(.N 1)])) (.E (wc (.int 2)))) (wop2 o_eq (.E (wcall S__law_draw [.L (plN 0), .V (wfz (wc (.int 2)))])) (.E (wc (.int 0)))))
theorem dv__law_kind {P : Program} {w : World} {K : PySem.W.Frag} {mg : Str → Option Value} {base : Heap} {f : Addr} (hz : ∀ x ∈ bn, mg x = none) (h__law_draw : Has P w K mg base 1 2 "_law_draw" ["_law_tape", "_law_many"] S__law_draw) (cdv : Value) (A : Around) (outer : List Env) (s : Shared) (H : Hp) (hr : Room 1 (A.deeper (envOfC "_law_kind" (defScope st__law_kind) s.heap.objs.size f cdv))) (hgd : A.guards = some []) :
    MSs (cxOf CX0 P w K mg base ["_law_tape", "_law_stand_here"] "_law_kind" (defScope st__law_kind) f cdv A outer s H E0).nox [0] (defBody st__law_kind) w__law_kind :=
  have nd := sc__law_kind.nd
  (mss_one (ms_ret (me_and (me_cmp om_gt (MO.of (me_callB cm_len (hz "len" (by decide)) (mos_cons (mo_name (i := 1)) mos_nil))) (MO.of me_int)) (me_one (me_cmp (om_eq (u hr 64)) (MO.of (me_callH h__law_draw (hr.mono (by decide)) hgd (mas_lend (mpl_name (i := 0)) (mas_val (me_fz me_int) mas_nil)))) (MO.of me_int))))))
abbrev st__law_folk : Stmt := topS 15
theorem sc__law_folk : FnScope ["_law_tape"] ["_law_tape"] (defScope st__law_folk) := ⟨rfl, rfl, rfl, by decide +kernel, rfl, by decide +kernel, by decide +kernel⟩
def w__law_folk : DSt := wret (wop2 o_add (.E (wc (.int 1))) (.E (wcallZ S__law_pick 0 [.V (wfz (wlst (wcons (wcall S__law_draw [.L (plN 0), .V (wfz (wc (.int 5)))]) (wcons (wcall S__law_draw [.L (plN 0), .V (wfz (wc (.int 12)))]) (wcons (wcall S__law_draw [.L (plN 0), .V (wfz (wc (.int 30)))]) (wnil))))))])))
theorem dv__law_folk {P : Program} {w : World} {K : PySem.W.Frag} {mg : Str → Option Value} {base : Heap} {f : Addr} (hz : ∀ x ∈ bn, mg x = none) (h__law_draw : Has P w K mg base 1 2 "_law_draw" ["_law_tape", "_law_many"] S__law_draw) (h__law_pick : Has P w K mg base 2 2 "_law_pick" ["_law_tape", "_law_some"] S__law_pick) (cdv : Value) (A : Around) (outer : List Env) (s : Shared) (H : Hp) (hr : Room 2 (A.deeper (envOfC "_law_folk" (defScope st__law_folk) s.heap.objs.size f cdv))) (hgd : A.guards = some []) :
    MSs (cxOf CX0 P w K mg base ["_law_tape"] "_law_folk" (defScope st__law_folk) f cdv A outer s H E0).nox [0] (defBody st__law_folk) w__law_folk :=
  have nd := sc__law_folk.nd
  (mss_one (ms_ret (me_bin om_add (MO.of me_int) (MO.of (me_callZ (i := 0) h__law_pick (hr.mono (by decide)) hgd (mas_val (me_fz (me_lst (mes_cons (me_callH h__law_draw (hr.mono (by decide)) hgd (mas_lend (mpl_name (i := 0)) (mas_val (me_fz me_int) mas_nil))) (mes_cons (me_callH h__law_draw (hr.mono (by decide)) hgd (mas_lend (mpl_name (i := 0)) (mas_val (me_fz me_int) mas_nil))) (mes_cons (me_callH h__law_draw (hr.mono (by decide)) hgd (mas_lend (mpl_name (i := 0)) (mas_val (me_fz me_int) mas_nil))) mes_nil))))) mas_nil))))))
abbrev st_law : Stmt := topS 16
theorem sc_law : FnScope ["_law_script", "_law_tape", "_law_turn", "_law_stand_here", "_law_tops", "_law_is_round", "_law_many", "_law_kept", "_law_due", "_law_k", "_law_near", "_law_sides", "_law_told", "_law_top", "_law_at", "_law_cut", "_law_some"] ["_law_script"] (defScope st_law) := ⟨rfl, rfl, rfl, by decide +kernel, rfl, by decide +kernel, by decide +kernel⟩
def w_law_1 : DSt := wdrop (wmetN 8 "list" d_append (wcons (wfz (wopL o_tuple [(.E (wlc (iseq (wvar 11)) (gname 16) (tyes) (wif (tcmp o_in (.E (wop2 o_ix (.N 16) (.E (wc (.int 0))))) (.E (wsl (.N 16) (wps (wc (.int 1))) wpn))) (wop2 o_ix (.N 16) (.E (wc (.int 0)))) (wop2 o_ix (.N 16) (.E (wc (.int 1))))) [16]))])) (wnil)))
def w_law_2 : DSt := wseq (wasg (gname 11) (wlc (irange1 (.E (wopL o_len [(.E (wop2 o_ix (.N 3) (.N 9)))]))) (gname 14) (tyes) (wtup (wcons (wop2 o_ix (.E (wop2 o_ix (.N 10) (.E (wc (.int 0))))) (.N 14)) (wcons (wop2 o_ix (.E (wop2 o_ix (.N 3) (.N 9))) (.N 14)) (wcons (wop2 o_ix (.E (wop2 o_ix (.N 10) (.E (wc (.int 1))))) (.N 14)) (wnil))))) [14]))
    (w_law_1)
def w_law_3 : DSt := wifS (tand (tnot (tval (wvar 5))) (tcmp o_ne (.E (wopL o_repr [(.E (wcall S_beat [.V (wfz (wvar 3)), .V (wc (.bl false))]))])) (.E (wopL o_repr [(.N 8)])))) (wret (wc (.bl false))) (wnext)
def w_law_4 : DSt := wseq (wifS (tcmp o_ne (.N 3) (.N 7)) (wret (wc (.bl false))) (wnext))
    (w_law_3)
def w_law_5 : DSt := wseq (wdrop (wmetN 12 "list" d_clear wnil))
    (w_law_4)
def w_law_6 : DSt := wseq (wifS (tcmp o_ne (.E (wopL o_repr [(.N 12)])) (.E (wopL o_repr [(.N 8)]))) (wret (wc (.bl false))) (wnext))
    (w_law_5)
def w_law_7 : DSt := wseq (wasg (gname 12) (wcall S_beat [.V (wfz (wvar 3)), .V (wfz (wvar 5))]))
    (w_law_6)
def w_law_8 : DSt := wseq (wfor (irange1 (.N 6)) (gname 9) (wseq (wasg (gname 10) (wif (tor (tval (wvar 5)) (tchain o_lt o_lt (.E (wc (.int 0))) (.N 9) (.E (wop2 o_sub (.N 6) (.E (wc (.int 1))))))) (wlst (wcons (wop2 o_ix (.N 3) (.E (wop2 o_sub (.N 9) (.E (wc (.int 1)))))) (wcons (wop2 o_ix (.N 3) (.E (wop2 o_mod (.E (wopL o_int [(.E (wop2 o_add (.N 9) (.E (wc (.int 1)))))])) (.N 6)))) (wnil)))) (wop2 o_mul (.E (wlst (wcons (wop2 o_ix (.N 3) (.N 9)) (wnil)))) (.E (wc (.int 2))))))
    (w_law_2)))
    (w_law_7)
def w_law_9 : DSt := wseq (wpar 7 8 (wcons (wopL o_list [(.N 3)]) (wcons (wlst (wnil)) (wnil))))
    (w_law_8)
def w_law_10 : DSt := wseq (wpar 5 6 (wcons (wcall S__law_kind [.L (plN 1), .V (wfz (wvar 3))]) (wcons (wopL o_len [(.N 3)]) (wnil))))
    (w_law_9)
def w_law_11 : DSt := wseq (wifS (tand (tcmp o_eq (.N 2) (.E (wc (.int 0)))) (tcmp o_eq (.E (wcall S__law_draw [.L (plN 1), .V (wfz (wc (.int 4)))])) (.E (wc (.int 0))))) (wseq (wasg (gname 4) (wlc (irange1 (.E (wc (.int 60)))) (gname 9) (tyes) (wcall S__law_draw [.L (plN 1), .V (wfz (wc (.int 61)))]) [9]))
    (wasg (gname 3) (wlc (iseq (wvar 4)) (gname 13) (tyes) (wopL o_tuple [(.E (wlc (irange2 (.E (wc (.int 1))) (.E (wc (.int 61)))) (gname 15) (tyes) (wif (tcmp o_le (.N 15) (.N 13)) (wvar 15) (wop2 o_sub (.E (wc (.int 0))) (.N 15))) [15]))]) [13]))) (wnext))
    (w_law_10)
def w_law_12 : DSt := wret (wc (.bl true))
def w_law_13 : DSt := wseq (wfor (irange1 (.E (wc (.int 3)))) (gname 2) (wseq (wasg (gname 3) (wcallZ S__law_stand 1 [.V (wfz (wcallZ S__law_book 1 [.V (wfz (wcall S__law_draw [.L (plN 1), .V (wfz (wc (.int 11)))]))])), .V (wfz (wcall S__law_folk [.L (plN 1)]))]))
    (w_law_11)))
    (w_law_12)
def w_law : DSt := wseq (wasg (gname 1) (wcall S__law_begun [.V (wfz (wvar 0))]))
    (w_law_13)
theorem dv_law {P : Program} {w : World} {K : PySem.W.Frag} {mg : Str → Option Value} {base : Heap} {f : Addr} (hz : ∀ x ∈ bn, mg x = none) (h__law_begun : Has P w K mg base 1 1 "_law_begun" ["_law_script"] S__law_begun) (h__law_draw : Has P w K mg base 1 2 "_law_draw" ["_law_tape", "_law_many"] S__law_draw) (h__law_book : Has P w K mg base 4 2 "_law_book" ["_law_tape", "_law_many"] S__law_book) (h__law_folk : Has P w K mg base 3 1 "_law_folk" ["_law_tape"] S__law_folk) (h__law_stand : Has P w K mg base 5 3 "_law_stand" ["_law_tape", "_law_book_here", "_law_many"] S__law_stand) (h__law_kind : Has P w K mg base 2 2 "_law_kind" ["_law_tape", "_law_stand_here"] S__law_kind) (h_beat : HasK P w K mg base 2 1 "beat" "ring" ["stand", "ring"] S_beat) (cdv : Value) (A : Around) (outer : List Env) (s : Shared) (H : Hp) (hr : Room 5 (A.deeper (envOfC "law" (defScope st_law) s.heap.objs.size f cdv))) (hgd : A.guards = some []) :
    MSs (cxOf CX0 P w K mg base ["_law_script", "_law_tape", "_law_turn", "_law_stand_here", "_law_tops", "_law_is_round", "_law_many", "_law_kept", "_law_due", "_law_k", "_law_near", "_law_sides", "_law_told", "_law_top", "_law_at", "_law_cut", "_law_some"] "law" (defScope st_law) f cdv A outer s H E0).nox [] (defBody st_law) w_law :=
  have nd := sc_law.nd
  (mss_cons (ms_asgN (i := 1) (me_callH h__law_begun (hr.mono (by decide)) hgd (mas_val (me_fz (me_var (i := 0))) mas_nil)) nd rfl (Or.inr rfl))
    (mss_cons (ms_for (mi_range1 (hz "range" (by decide)) (mos_cons (MO.of me_int) mos_nil)) (mg_name (i := 2) nd rfl (Or.inl rfl)) (mss_cons (ms_asgN (i := 3) (me_callZ (i := 1) h__law_stand (hr.mono (by decide)) hgd (mas_val (me_fz (me_callZ (i := 1) h__law_book (hr.mono (by decide)) hgd (mas_val (me_fz (me_callH h__law_draw (hr.mono (by decide)) hgd (mas_lend (mpl_name (i := 1)) (mas_val (me_fz me_int) mas_nil)))) mas_nil))) (mas_val (me_fz (me_callH h__law_folk (hr.mono (by decide)) hgd (mas_lend (mpl_name (i := 1)) mas_nil))) mas_nil))) nd rfl (Or.inr rfl))
    (mss_cons (ms_if (mt_mw (mw_and (mt_cmp (om_eq (u hr 64)) (mo_name (i := 2)) (MO.of me_int)) (mw_1 (mt_cmp (om_eq (u hr 64)) (MO.of (me_callH h__law_draw (hr.mono (by decide)) hgd (mas_lend (mpl_name (i := 1)) (mas_val (me_fz me_int) mas_nil)))) (MO.of me_int))))) (mss_cons (ms_setLc (i := 4) (own := [("_law_k", 9)]) rfl nd rfl (by decide) rfl (sw_true rfl rfl rfl (by decide +kernel)) (mi_range1 (hz "range" (by decide)) (mos_cons (MO.of me_int) mos_nil)) (blkOk_by (N := ["_law_script", "_law_tape", "_law_turn", "_law_stand_here", "_law_tops", "_law_is_round", "_law_many", "_law_kept", "_law_due", "_law_k", "_law_near", "_law_sides", "_law_told", "_law_top", "_law_at", "_law_cut", "_law_some"]) (sc := defScope st_law) (by decide +kernel)) ⟨fun _ _ _ _ _ => (mg_name (i := 9) nd rfl (Or.inl rfl) (not_roC (by decide))), fun _ _ _ _ _ => mts_nil, fun _ _ _ _ _ => (me_callH h__law_draw (hr.mono (by decide)) hgd (mas_lend (mpl_name (i := 1)) (mas_val (me_fz me_int) mas_nil)))⟩)
    (mss_one (ms_asgN (i := 3) (me_lc (own := [("_law_top", 13)]) rfl nd (mi_seq (me_var (i := 4))) (blkOk_by (N := ["_law_script", "_law_tape", "_law_turn", "_law_stand_here", "_law_tops", "_law_is_round", "_law_many", "_law_kept", "_law_due", "_law_k", "_law_near", "_law_sides", "_law_told", "_law_top", "_law_at", "_law_cut", "_law_some"]) (sc := defScope st_law) (by decide +kernel)) ⟨fun _ _ _ _ _ => (mg_name (i := 13) nd rfl (Or.inr rfl) (not_roC (by decide))), fun _ _ _ _ _ => mts_nil, fun _ _ _ _ _ => (me_callTy cm_tuple (hz "tuple" (by decide)) (mos_cons (MO.of (me_lc (own := [("_law_cut", 15)]) rfl nd (mi_range2 (hz "range" (by decide)) (mos_cons (MO.of me_int) (mos_cons (MO.of me_int) mos_nil))) (blkOk_by (N := ["_law_script", "_law_tape", "_law_turn", "_law_stand_here", "_law_tops", "_law_is_round", "_law_many", "_law_kept", "_law_due", "_law_k", "_law_near", "_law_sides", "_law_told", "_law_top", "_law_at", "_law_cut", "_law_some"]) (sc := relS ({ kind := PySem.ScopeKind.function, names := [ (PySem.Str.ofString ".0", PySem.NameKind.local), (PySem.Str.ofString "_law_top", PySem.NameKind.cell), (PySem.Str.ofString "tuple", PySem.NameKind.globalImplicit), (PySem.Str.ofString "range", PySem.NameKind.globalImplicit)], isGenerator := false, isCoroutine := false, more := [] : PySem.Scope }) (defScope st_law)) (by decide +kernel)) ⟨fun _ _ _ _ _ => (mg_name (i := 15) nd rfl (Or.inl rfl) (not_roC (by decide))), fun _ _ _ _ _ => mts_nil, fun _ _ _ _ _ => (me_if (mt_cmp om_le (mo_name (i := 15)) (mo_name (i := 13))) (me_var (i := 15)) (me_bin om_sub (MO.of me_int) (mo_name (i := 15))))⟩)) mos_nil))⟩) nd rfl (Or.inr rfl)))) mss_nil)
    (mss_cons (ms_par (i := 5) (j := 6) (mes_cons (me_callH h__law_kind (hr.mono (by decide)) hgd (mas_lend (mpl_name (i := 1)) (mas_val (me_fz (me_var (i := 3))) mas_nil))) (mes_cons (me_callB cm_len (hz "len" (by decide)) (mos_cons (mo_name (i := 3)) mos_nil)) mes_nil)) rfl nd rfl rfl (by decide))
    (mss_cons (ms_par (i := 7) (j := 8) (mes_cons (me_callTy cm_list (hz "list" (by decide)) (mos_cons (mo_name (i := 3)) mos_nil)) (mes_cons (me_lst mes_nil) mes_nil)) rfl nd rfl rfl (by decide))
    (mss_cons (ms_for (mi_range1 (hz "range" (by decide)) (mos_cons (mo_name (i := 6)) mos_nil)) (mg_name (i := 9) nd rfl (Or.inr rfl)) (mss_cons (ms_asgN (i := 10) (me_if (mt_mw (mw_or (mt_val (me_var (i := 5))) (mw_1 (mt_chain om_lt om_lt (MO.of me_int) (mo_name (i := 9)) (MO.of (me_bin om_sub (mo_name (i := 6)) (MO.of me_int))))))) (me_lst (mes_cons (me_ix (im_ix (u hr 1)) (mo_name (i := 3)) (MO.of (me_bin om_sub (mo_name (i := 9)) (MO.of me_int)))) (mes_cons (me_ix (im_ix (u hr 1)) (mo_name (i := 3)) (MO.of (me_bin om_mod (MO.of (me_callTy cm_int (hz "int" (by decide)) (mos_cons (MO.of (me_bin om_add (mo_name (i := 9)) (MO.of me_int))) mos_nil))) (mo_name (i := 6))))) mes_nil))) (me_bin om_mul (MO.of (me_lst (mes_cons (me_ix (im_ix (u hr 1)) (mo_name (i := 3)) (mo_name (i := 9))) mes_nil))) (MO.of me_int))) nd rfl (Or.inr rfl))
    (mss_cons (ms_setLc (i := 11) (own := [("_law_at", 14)]) rfl nd rfl (by decide) rfl (sw_true rfl rfl rfl (by decide +kernel)) (mi_range1 (hz "range" (by decide)) (mos_cons (MO.of (me_callB cm_len (hz "len" (by decide)) (mos_cons (MO.of (me_ix (im_ix (u hr 1)) (mo_name (i := 3)) (mo_name (i := 9)))) mos_nil))) mos_nil)) (blkOk_by (N := ["_law_script", "_law_tape", "_law_turn", "_law_stand_here", "_law_tops", "_law_is_round", "_law_many", "_law_kept", "_law_due", "_law_k", "_law_near", "_law_sides", "_law_told", "_law_top", "_law_at", "_law_cut", "_law_some"]) (sc := defScope st_law) (by decide +kernel)) ⟨fun _ _ _ _ _ => (mg_name (i := 14) nd rfl (Or.inl rfl) (not_roC (by decide))), fun _ _ _ _ _ => mts_nil, fun _ _ _ _ _ => (me_tup (mes_cons (me_ix (im_ix (u hr 1)) (MO.of (me_ix (im_ix (u hr 1)) (mo_name (i := 10)) (MO.of me_int))) (mo_name (i := 14))) (mes_cons (me_ix (im_ix (u hr 1)) (MO.of (me_ix (im_ix (u hr 1)) (mo_name (i := 3)) (mo_name (i := 9)))) (mo_name (i := 14))) (mes_cons (me_ix (im_ix (u hr 1)) (MO.of (me_ix (im_ix (u hr 1)) (mo_name (i := 10)) (MO.of me_int))) (mo_name (i := 14))) mes_nil))))⟩)
    (mss_one (ms_expr (me_metN (i := 8) PySem.F.plainAttrs_list PySem.F.slot_list_append PySem.F.type_list_append md_append (mes_cons (me_fz (me_callTy cm_tuple (hz "tuple" (by decide)) (mos_cons (MO.of (me_lc (own := [("_law_some", 16)]) rfl nd (mi_seq (me_var (i := 11))) (blkOk_by (N := ["_law_script", "_law_tape", "_law_turn", "_law_stand_here", "_law_tops", "_law_is_round", "_law_many", "_law_kept", "_law_due", "_law_k", "_law_near", "_law_sides", "_law_told", "_law_top", "_law_at", "_law_cut", "_law_some"]) (sc := defScope st_law) (by decide +kernel)) ⟨fun _ _ _ _ _ => (mg_name (i := 16) nd rfl (Or.inl rfl) (not_roC (by decide))), fun _ _ _ _ _ => mts_nil, fun _ _ _ _ _ => (me_if (mt_cmp (om_in (u hr 65)) (MO.of (me_ix (im_ix (u hr 1)) (mo_name (i := 16)) (MO.of me_int))) (MO.of (me_sl (mo_name (i := 16)) (mp_some me_int) mp_none))) (me_ix (im_ix (u hr 1)) (mo_name (i := 16)) (MO.of me_int)) (me_ix (im_ix (u hr 1)) (mo_name (i := 16)) (MO.of me_int)))⟩)) mos_nil))) mes_nil)))))) PassesOwn.never rfl)
    (mss_cons (ms_asgN (i := 12) (me_callK h_beat (hr.mono (by decide)) hgd (mas_val (me_fz (me_var (i := 3))) mas_nil) (me_var (i := 5))) nd rfl (Or.inl rfl))
    (mss_cons (ms_if (mt_cmp (om_ne (u hr 64)) (MO.of (me_callB (cm_repr hgd (u hr 102)) (hz "repr" (by decide)) (mos_cons (mo_name (i := 12)) mos_nil))) (MO.of (me_callB (cm_repr hgd (u hr 102)) (hz "repr" (by decide)) (mos_cons (mo_name (i := 8)) mos_nil)))) (mss_one (ms_ret me_bl)) mss_nil)
    (mss_cons (ms_expr (me_metN0 (i := 12) PySem.F.plainAttrs_list PySem.F.slot_list_clear PySem.F.type_list_clear md_clear))
    (mss_cons (ms_if (mt_cmp (om_ne (u hr 64)) (mo_name (i := 3)) (mo_name (i := 7))) (mss_one (ms_ret me_bl)) mss_nil)
    (mss_one (ms_if (mt_mw (mw_and (mt_not (mt_val (me_var (i := 5)))) (mw_1 (mt_cmp (om_ne (u hr 64)) (MO.of (me_callB (cm_repr hgd (u hr 102)) (hz "repr" (by decide)) (mos_cons (MO.of (me_callD h_beat (hr.mono (by decide)) hgd (mas_val (me_fz (me_var (i := 3))) mas_nil))) mos_nil))) (MO.of (me_callB (cm_repr hgd (u hr 102)) (hz "repr" (by decide)) (mos_cons (mo_name (i := 8)) mos_nil))))))) (mss_one (ms_ret me_bl)) mss_nil))))))))))) PassesOwn.never rfl)
    (mss_one (ms_ret me_bl))))
end Q

namespace Q
open PySem PySem.Spec PyProof.Rows L2 M Z3
theorem wp_draw : ∀ ds R, ds.length = 2 → S__law_draw ds R → w__law_draw (endsB [true, false] R) (startD 2 6 ds) := by
  rintro ds R hl ⟨t, m, n, rfl, ⟨cells, spot, left, rfl, hc, hcl, hs0, hs1, hl0⟩, hm0, hm1, hR⟩
  have st : startD 2 6 [tapeD cells spot left, D.int m] = [tapeD cells spot left, .int m, .off, .off, .off, .off] := rfl
  rw [st]
  have hn : ((n + 1 : Nat) : Int) = (n : Int) + 1 := by omega
  rw [hn] at hs1
  have hlen : 0 < cells.length := List.length_pos_iff.mpr hc
  -- the rest, for any left
  have fin : ∀ (sp l : Int), 0 ≤ sp → sp + n ≤ 2 ^ 40 → 0 ≤ l → 0 < m ∧ CDiv l m ∧ R (.int (l % m)) [tapeD cells sp (l / m), D.off] := by
    intro sp l h1 h2 h3
    exact ⟨hm0, ⟨hm0, by omega⟩, hR _ _ (Int.emod_nonneg _ (by omega)) (Int.emod_lt_of_pos _ hm0) ⟨cells, sp, _, rfl, hc, hcl, h1, h2, Int.ediv_nonneg h3 (by omega)⟩⟩
  unfold w__law_draw
  simp (maxSteps := 2000000) only [x_callZ, x_enumS, x_minD, x_maxD, r_powW, r_mulW, x_izipM, x_glst, x_izip, iz_tup, iz_lst, x_lcV, x_par3, x_lz3, x_lstS, x_star, x_izip3, x_sumL, x_tru, x_rg2, x_metP, x_yes, lo_l, so_l, so_t, tr_int, x_clear, ex_plB, pb_causes, pb_clashes, pb_undone, on_book, x_iseq, is_tup, is_lst, x_seq, x_ifS, x_asg, x_par, x_for, x_gname, x_gnil, x_gcons, x_gtup, x_gixP, x_tup, x_lst, x_cons, x_nil, x_dK, x_op2, x_op1, x_opL, x_ret, x_mov, x_var, x_fz, x_c, x_next, x_drop, x_if, x_and, x_or, x_not, x_chain, x_tchain, x_tcmp, x_tval, x_tand, x_tor, x_tnot, x_isi, x_call, x_args0, x_argsV, x_argsL, x_put0, x_putN, x_putS, x_evN, x_evE, x_ev0, x_evC, x_atN, x_atD, x_metN, x_pn, x_ps, x_sl, x_rg1, x_orT, x_lrg2, x_endR, x_endN, x_outT, x_outF, x_out0, x_keyC, x_keyN, y_int, y_bl, y_str, y_non, y_tup, y_lst, y_frl, y_nil, y_cons, ats_nil, ats_cons, onAt_0, onAt_s, on_tape, on_int, on_str, on_bl, on_non, on_tup, on_lst, on_hole, on_frl, true_and, and_true, and_assoc, List.getElem?_cons_zero, List.getElem?_cons_succ, Option.some.injEq, exists_and_left, exists_eq_left', exists_eq_left, exists_eq_right, exists_eq_right', tape_left, tape_spot, tape_cells, set_spot, set_left, r_int, r_mod, r_fdiv, r_lt, r_le, r_gt, r_ge, r_eq, r_ne, r_eqS, r_neS, r_add, r_addL, r_sub, r_mul, r_mulL, r_pow, r_intB, r_abs, r_neg, r_lenL, r_lenT, r_lenF, r_append, r_popAt, r_extend, r_tyL, r_min, fz_fz, fzL_fz, List.all_cons, List.all_nil, Bool.and_true, Bool.true_and, D.tup.injEq, D.int.injEq, D.bl.injEq, D.str.injEq, D.lst.injEq, List.cons.injEq, List.length_cons, List.length_nil, ex_plN, List.set_cons_succ, List.set_cons_zero, decide_eq_true_eq, Nat.reduceAdd, Nat.reduceLT, Nat.reduceLeDiff, Nat.zero_add, Bool.not_true, Bool.not_false, Bool.not_eq_true, Bool.and_false, Bool.false_and, D.hole.injEq, ite_true, ite_false, if_true, if_false, reduceIte, Bool.false_eq_true, Nat.lt_add_one, reduceCtorEq, false_and, and_false, exists_false, exists_const, ne_eq, not_false_eq_true, true_or, or_true, or_false, false_or]
  have hlm : ((cells.map D.int).length : Int) = cells.length := by rw [List.length_map]
  rw [hlm]
  have hix := at_cells (cells := cells) (i := spot % cells.length) (Int.emod_nonneg _ (by omega)) (Int.emod_lt_of_pos _ (by omega))
  generalize cells[(spot % (cells.length : Int)).toNat]'(by have := Int.emod_lt_of_pos spot (show (0 : Int) < cells.length by omega); have := Int.emod_nonneg spot (show (cells.length : Int) ≠ 0 by omega); omega) = cell at hix
  split
  · refine ⟨by omega, ?_⟩
    rw [ix_at hix rfl]
    simp (maxSteps := 2000000) only [x_callZ, x_enumS, x_minD, x_maxD, r_powW, r_mulW, x_izipM, x_glst, x_izip, iz_tup, iz_lst, x_lcV, x_par3, x_lz3, x_lstS, x_star, x_izip3, x_sumL, x_tru, x_rg2, x_metP, x_yes, lo_l, so_l, so_t, tr_int, x_clear, ex_plB, pb_causes, pb_clashes, pb_undone, on_book, x_iseq, is_tup, is_lst, x_seq, x_ifS, x_asg, x_par, x_for, x_gname, x_gnil, x_gcons, x_gtup, x_gixP, x_tup, x_lst, x_cons, x_nil, x_dK, x_op2, x_op1, x_opL, x_ret, x_mov, x_var, x_fz, x_c, x_next, x_drop, x_if, x_and, x_or, x_not, x_chain, x_tchain, x_tcmp, x_tval, x_tand, x_tor, x_tnot, x_isi, x_call, x_args0, x_argsV, x_argsL, x_put0, x_putN, x_putS, x_evN, x_evE, x_ev0, x_evC, x_atN, x_atD, x_metN, x_pn, x_ps, x_sl, x_rg1, x_orT, x_lrg2, x_endR, x_endN, x_outT, x_outF, x_out0, x_keyC, x_keyN, y_int, y_bl, y_str, y_non, y_tup, y_lst, y_frl, y_nil, y_cons, ats_nil, ats_cons, onAt_0, onAt_s, on_tape, on_int, on_str, on_bl, on_non, on_tup, on_lst, on_hole, on_frl, true_and, and_true, and_assoc, List.getElem?_cons_zero, List.getElem?_cons_succ, Option.some.injEq, exists_and_left, exists_eq_left', exists_eq_left, exists_eq_right, exists_eq_right', tape_left, tape_spot, tape_cells, set_spot, set_left, r_int, r_mod, r_fdiv, r_lt, r_le, r_gt, r_ge, r_eq, r_ne, r_eqS, r_neS, r_add, r_addL, r_sub, r_mul, r_mulL, r_pow, r_intB, r_abs, r_neg, r_lenL, r_lenT, r_lenF, r_append, r_popAt, r_extend, r_tyL, r_min, fz_fz, fzL_fz, List.all_cons, List.all_nil, Bool.and_true, Bool.true_and, D.tup.injEq, D.int.injEq, D.bl.injEq, D.str.injEq, D.lst.injEq, List.cons.injEq, List.length_cons, List.length_nil, ex_plN, List.set_cons_succ, List.set_cons_zero, decide_eq_true_eq, Nat.reduceAdd, Nat.reduceLT, Nat.reduceLeDiff, Nat.zero_add, Bool.not_true, Bool.not_false, Bool.not_eq_true, Bool.and_false, Bool.false_and, D.hole.injEq, ite_true, ite_false, if_true, if_false, reduceIte, Bool.false_eq_true, Nat.lt_add_one, reduceCtorEq, false_and, and_false, exists_false, exists_const, ne_eq, not_false_eq_true, true_or, or_true, or_false, false_or]
    have hmod : 0 ≤ cell % 2147483647 ∧ cell % 2147483647 < 2147483647 := ⟨Int.emod_nonneg _ (by omega), Int.emod_lt_of_pos _ (by omega)⟩
    have hbig : (0 : Int) < 10 ^ Int.toNat 50 + 151 := by decide
    have hpw : CPow 10 18 := ⟨by decide, by decide, by decide⟩
    refine ⟨by omega, Or.inl ⟨by decide, by decide⟩, ⟨by decide, by decide, by omega⟩, ⟨by decide, by decide, by decide⟩, hbig, hpw, ?_⟩
    have hl2 := Int.emod_nonneg ((cell % 2147483647 + 69621 * spot + 48271) ^ Int.toNat 17) (Int.ne_of_gt hbig)
    split
    · split
      · exact ⟨hpw, fin (spot + 1) _ (by omega) (by omega) (by omega)⟩
      · exact fin (spot + 1) _ (by omega) (by omega) hl2
    · exact fin (spot + 1) _ (by omega) (by omega) hl2
  · exact fin spot left hs0 (by omega) hl0
theorem wp_begun : ∀ ds R, ds.length = 1 → S__law_begun ds R → w__law_begun (endsB [false] R) (startD 1 1 ds) := by
  rintro ds R hl ⟨ns, rfl, hn, hR⟩
  have st : startD 1 1 [.frl (ns.map .int)] = [.frl (ns.map .int)] := rfl
  rw [st]
  unfold w__law_begun
  simp (maxSteps := 2000000) only [x_callZ, x_enumS, x_minD, x_maxD, r_powW, r_mulW, x_izipM, x_glst, x_izip, iz_tup, iz_lst, x_lcV, x_par3, x_lz3, x_lstS, x_star, x_izip3, x_sumL, x_tru, x_rg2, x_metP, x_yes, lo_l, so_l, so_t, tr_int, x_clear, ex_plB, pb_causes, pb_clashes, pb_undone, on_book, x_iseq, is_tup, is_lst, x_seq, x_ifS, x_asg, x_par, x_for, x_gname, x_gnil, x_gcons, x_gtup, x_gixP, x_tup, x_lst, x_cons, x_nil, x_dK, x_op2, x_op1, x_opL, x_ret, x_mov, x_var, x_fz, x_c, x_next, x_drop, x_if, x_and, x_or, x_not, x_chain, x_tchain, x_tcmp, x_tval, x_tand, x_tor, x_tnot, x_isi, x_call, x_args0, x_argsV, x_argsL, x_put0, x_putN, x_putS, x_evN, x_evE, x_ev0, x_evC, x_atN, x_atD, x_metN, x_pn, x_ps, x_sl, x_rg1, x_orT, x_lrg2, x_endR, x_endN, x_outT, x_outF, x_out0, x_keyC, x_keyN, y_int, y_bl, y_str, y_non, y_tup, y_lst, y_frl, y_nil, y_cons, ats_nil, ats_cons, onAt_0, onAt_s, on_tape, on_int, on_str, on_bl, on_non, on_tup, on_lst, on_hole, on_frl, true_and, and_true, and_assoc, List.getElem?_cons_zero, List.getElem?_cons_succ, Option.some.injEq, exists_and_left, exists_eq_left', exists_eq_left, exists_eq_right, exists_eq_right', tape_left, tape_spot, tape_cells, set_spot, set_left, r_int, r_mod, r_fdiv, r_lt, r_le, r_gt, r_ge, r_eq, r_ne, r_eqS, r_neS, r_add, r_addL, r_sub, r_mul, r_mulL, r_pow, r_intB, r_abs, r_neg, r_lenL, r_lenT, r_lenF, r_append, r_popAt, r_extend, r_tyL, r_min, fz_fz, fzL_fz, List.all_cons, List.all_nil, Bool.and_true, Bool.true_and, D.tup.injEq, D.int.injEq, D.bl.injEq, D.str.injEq, D.lst.injEq, List.cons.injEq, List.length_cons, List.length_nil, ex_plN, List.set_cons_succ, List.set_cons_zero, decide_eq_true_eq, Nat.reduceAdd, Nat.reduceLT, Nat.reduceLeDiff, Nat.zero_add, Bool.not_true, Bool.not_false, Bool.not_eq_true, Bool.and_false, Bool.false_and, D.hole.injEq, ite_true, ite_false, if_true, if_false, reduceIte, Bool.false_eq_true, Nat.lt_add_one, reduceCtorEq, false_and, and_false, exists_false, exists_const, ne_eq, not_false_eq_true, true_or, or_true, or_false, false_or]
  rw [r_slF (fzL_ints ns), cut_to (by decide), List.take_of_length_le (by rw [List.length_map]; exact hn)]
  cases ns with
  | nil =>
    refine ⟨false, rfl, ?_⟩
    simp (maxSteps := 2000000) only [x_callZ, x_enumS, x_minD, x_maxD, r_powW, r_mulW, x_izipM, x_glst, x_izip, iz_tup, iz_lst, x_lcV, x_par3, x_lz3, x_lstS, x_star, x_izip3, x_sumL, x_tru, x_rg2, x_metP, x_yes, lo_l, so_l, so_t, tr_int, x_clear, ex_plB, pb_causes, pb_clashes, pb_undone, on_book, x_iseq, is_tup, is_lst, x_seq, x_ifS, x_asg, x_par, x_for, x_gname, x_gnil, x_gcons, x_gtup, x_gixP, x_tup, x_lst, x_cons, x_nil, x_dK, x_op2, x_op1, x_opL, x_ret, x_mov, x_var, x_fz, x_c, x_next, x_drop, x_if, x_and, x_or, x_not, x_chain, x_tchain, x_tcmp, x_tval, x_tand, x_tor, x_tnot, x_isi, x_call, x_args0, x_argsV, x_argsL, x_put0, x_putN, x_putS, x_evN, x_evE, x_ev0, x_evC, x_atN, x_atD, x_metN, x_pn, x_ps, x_sl, x_rg1, x_orT, x_lrg2, x_endR, x_endN, x_outT, x_outF, x_out0, x_keyC, x_keyN, y_int, y_bl, y_str, y_non, y_tup, y_lst, y_frl, y_nil, y_cons, ats_nil, ats_cons, onAt_0, onAt_s, on_tape, on_int, on_str, on_bl, on_non, on_tup, on_lst, on_hole, on_frl, true_and, and_true, and_assoc, List.getElem?_cons_zero, List.getElem?_cons_succ, Option.some.injEq, exists_and_left, exists_eq_left', exists_eq_left, exists_eq_right, exists_eq_right', tape_left, tape_spot, tape_cells, set_spot, set_left, r_int, r_mod, r_fdiv, r_lt, r_le, r_gt, r_ge, r_eq, r_ne, r_eqS, r_neS, r_add, r_addL, r_sub, r_mul, r_mulL, r_pow, r_intB, r_abs, r_neg, r_lenL, r_lenT, r_lenF, r_append, r_popAt, r_extend, r_tyL, r_min, fz_fz, fzL_fz, List.all_cons, List.all_nil, Bool.and_true, Bool.true_and, D.tup.injEq, D.int.injEq, D.bl.injEq, D.str.injEq, D.lst.injEq, List.cons.injEq, List.length_cons, List.length_nil, ex_plN, List.set_cons_succ, List.set_cons_zero, decide_eq_true_eq, Nat.reduceAdd, Nat.reduceLT, Nat.reduceLeDiff, Nat.zero_add, Bool.not_true, Bool.not_false, Bool.not_eq_true, Bool.and_false, Bool.false_and, D.hole.injEq, ite_true, ite_false, if_true, if_false, reduceIte, Bool.false_eq_true, Nat.lt_add_one, reduceCtorEq, false_and, and_false, exists_false, exists_const, ne_eq, not_false_eq_true, true_or, or_true, or_false, false_or]
    exact hR _ ⟨[0], 0, 0, rfl, by simp, by simp, by omega, by decide, by omega⟩
  | cons a r =>
    refine ⟨true, rfl, ?_⟩
    simp (maxSteps := 2000000) only [x_callZ, x_enumS, x_minD, x_maxD, r_powW, r_mulW, x_izipM, x_glst, x_izip, iz_tup, iz_lst, x_lcV, x_par3, x_lz3, x_lstS, x_star, x_izip3, x_sumL, x_tru, x_rg2, x_metP, x_yes, lo_l, so_l, so_t, tr_int, x_clear, ex_plB, pb_causes, pb_clashes, pb_undone, on_book, x_iseq, is_tup, is_lst, x_seq, x_ifS, x_asg, x_par, x_for, x_gname, x_gnil, x_gcons, x_gtup, x_gixP, x_tup, x_lst, x_cons, x_nil, x_dK, x_op2, x_op1, x_opL, x_ret, x_mov, x_var, x_fz, x_c, x_next, x_drop, x_if, x_and, x_or, x_not, x_chain, x_tchain, x_tcmp, x_tval, x_tand, x_tor, x_tnot, x_isi, x_call, x_args0, x_argsV, x_argsL, x_put0, x_putN, x_putS, x_evN, x_evE, x_ev0, x_evC, x_atN, x_atD, x_metN, x_pn, x_ps, x_sl, x_rg1, x_orT, x_lrg2, x_endR, x_endN, x_outT, x_outF, x_out0, x_keyC, x_keyN, y_int, y_bl, y_str, y_non, y_tup, y_lst, y_frl, y_nil, y_cons, ats_nil, ats_cons, onAt_0, onAt_s, on_tape, on_int, on_str, on_bl, on_non, on_tup, on_lst, on_hole, on_frl, true_and, and_true, and_assoc, List.getElem?_cons_zero, List.getElem?_cons_succ, Option.some.injEq, exists_and_left, exists_eq_left', exists_eq_left, exists_eq_right, exists_eq_right', tape_left, tape_spot, tape_cells, set_spot, set_left, r_int, r_mod, r_fdiv, r_lt, r_le, r_gt, r_ge, r_eq, r_ne, r_eqS, r_neS, r_add, r_addL, r_sub, r_mul, r_mulL, r_pow, r_intB, r_abs, r_neg, r_lenL, r_lenT, r_lenF, r_append, r_popAt, r_extend, r_tyL, r_min, fz_fz, fzL_fz, List.all_cons, List.all_nil, Bool.and_true, Bool.true_and, D.tup.injEq, D.int.injEq, D.bl.injEq, D.str.injEq, D.lst.injEq, List.cons.injEq, List.length_cons, List.length_nil, ex_plN, List.set_cons_succ, List.set_cons_zero, decide_eq_true_eq, Nat.reduceAdd, Nat.reduceLT, Nat.reduceLeDiff, Nat.zero_add, Bool.not_true, Bool.not_false, Bool.not_eq_true, Bool.and_false, Bool.false_and, D.hole.injEq, ite_true, ite_false, if_true, if_false, reduceIte, Bool.false_eq_true, Nat.lt_add_one, reduceCtorEq, false_and, and_false, exists_false, exists_const, ne_eq, not_false_eq_true, true_or, or_true, or_false, false_or, fzL_ints]
    exact hR _ ⟨a :: r, 0, 0, rfl, by simp, hn, by omega, by decide, by omega⟩
theorem wp_pick : ∀ ds R, ds.length = 2 → S__law_pick ds R → w__law_pick (endsB [true, false] R) (startD 2 2 ds) := by
  rintro ds R hl ⟨t, o, xs, n, rfl, ht, h0, h1, h2, hR⟩
  have st : startD 2 2 [t, .lst o xs] = [t, .lst o xs] := rfl
  rw [st]
  unfold w__law_pick
  have ot := ht.on
  simp (maxSteps := 2000000) only [x_callZ, x_enumS, x_minD, x_maxD, r_powW, r_mulW, x_izipM, x_glst, x_izip, iz_tup, iz_lst, x_lcV, x_par3, x_lz3, x_lstS, x_star, x_izip3, x_sumL, x_tru, x_rg2, x_metP, x_yes, lo_l, so_l, so_t, tr_int, x_clear, ex_plB, pb_causes, pb_clashes, pb_undone, on_book, x_iseq, is_tup, is_lst, x_seq, x_ifS, x_asg, x_par, x_for, x_gname, x_gnil, x_gcons, x_gtup, x_gixP, x_tup, x_lst, x_cons, x_nil, x_dK, x_op2, x_op1, x_opL, x_ret, x_mov, x_var, x_fz, x_c, x_next, x_drop, x_if, x_and, x_or, x_not, x_chain, x_tchain, x_tcmp, x_tval, x_tand, x_tor, x_tnot, x_isi, x_call, x_args0, x_argsV, x_argsL, x_put0, x_putN, x_putS, x_evN, x_evE, x_ev0, x_evC, x_atN, x_atD, x_metN, x_pn, x_ps, x_sl, x_rg1, x_orT, x_lrg2, x_endR, x_endN, x_outT, x_outF, x_out0, x_keyC, x_keyN, y_int, y_bl, y_str, y_non, y_tup, y_lst, y_frl, y_nil, y_cons, ats_nil, ats_cons, onAt_0, onAt_s, on_tape, on_int, on_str, on_bl, on_non, on_tup, on_lst, on_hole, on_frl, true_and, and_true, and_assoc, List.getElem?_cons_zero, List.getElem?_cons_succ, Option.some.injEq, exists_and_left, exists_eq_left', exists_eq_left, exists_eq_right, exists_eq_right', tape_left, tape_spot, tape_cells, set_spot, set_left, r_int, r_mod, r_fdiv, r_lt, r_le, r_gt, r_ge, r_eq, r_ne, r_eqS, r_neS, r_add, r_addL, r_sub, r_mul, r_mulL, r_pow, r_intB, r_abs, r_neg, r_lenL, r_lenT, r_lenF, r_append, r_popAt, r_extend, r_tyL, r_min, fz_fz, fzL_fz, List.all_cons, List.all_nil, Bool.and_true, Bool.true_and, D.tup.injEq, D.int.injEq, D.bl.injEq, D.str.injEq, D.lst.injEq, List.cons.injEq, List.length_cons, List.length_nil, ex_plN, List.set_cons_succ, List.set_cons_zero, decide_eq_true_eq, Nat.reduceAdd, Nat.reduceLT, Nat.reduceLeDiff, Nat.zero_add, Bool.not_true, Bool.not_false, Bool.not_eq_true, Bool.and_false, Bool.false_and, D.hole.injEq, ite_true, ite_false, if_true, if_false, reduceIte, Bool.false_eq_true, Nat.lt_add_one, reduceCtorEq, false_and, and_false, exists_false, exists_const, ne_eq, not_false_eq_true, true_or, or_true, or_false, false_or, ot]
  intro v
  have hpos : 0 < xs.length := List.length_pos_iff.mpr h0
  refine to_draw ht (by omega) (by omega) fun r t' hr0 hr1 ht' => ?_
  have ot' := ht'.on
  simp (maxSteps := 2000000) only [x_callZ, x_enumS, x_minD, x_maxD, r_powW, r_mulW, x_izipM, x_glst, x_izip, iz_tup, iz_lst, x_lcV, x_par3, x_lz3, x_lstS, x_star, x_izip3, x_sumL, x_tru, x_rg2, x_metP, x_yes, lo_l, so_l, so_t, tr_int, x_clear, ex_plB, pb_causes, pb_clashes, pb_undone, on_book, x_iseq, is_tup, is_lst, x_seq, x_ifS, x_asg, x_par, x_for, x_gname, x_gnil, x_gcons, x_gtup, x_gixP, x_tup, x_lst, x_cons, x_nil, x_dK, x_op2, x_op1, x_opL, x_ret, x_mov, x_var, x_fz, x_c, x_next, x_drop, x_if, x_and, x_or, x_not, x_chain, x_tchain, x_tcmp, x_tval, x_tand, x_tor, x_tnot, x_isi, x_call, x_args0, x_argsV, x_argsL, x_put0, x_putN, x_putS, x_evN, x_evE, x_ev0, x_evC, x_atN, x_atD, x_metN, x_pn, x_ps, x_sl, x_rg1, x_orT, x_lrg2, x_endR, x_endN, x_outT, x_outF, x_out0, x_keyC, x_keyN, y_int, y_bl, y_str, y_non, y_tup, y_lst, y_frl, y_nil, y_cons, ats_nil, ats_cons, onAt_0, onAt_s, on_tape, on_int, on_str, on_bl, on_non, on_tup, on_lst, on_hole, on_frl, true_and, and_true, and_assoc, List.getElem?_cons_zero, List.getElem?_cons_succ, Option.some.injEq, exists_and_left, exists_eq_left', exists_eq_left, exists_eq_right, exists_eq_right', tape_left, tape_spot, tape_cells, set_spot, set_left, r_int, r_mod, r_fdiv, r_lt, r_le, r_gt, r_ge, r_eq, r_ne, r_eqS, r_neS, r_add, r_addL, r_sub, r_mul, r_mulL, r_pow, r_intB, r_abs, r_neg, r_lenL, r_lenT, r_lenF, r_append, r_popAt, r_extend, r_tyL, r_min, fz_fz, fzL_fz, List.all_cons, List.all_nil, Bool.and_true, Bool.true_and, D.tup.injEq, D.int.injEq, D.bl.injEq, D.str.injEq, D.lst.injEq, List.cons.injEq, List.length_cons, List.length_nil, ex_plN, List.set_cons_succ, List.set_cons_zero, decide_eq_true_eq, Nat.reduceAdd, Nat.reduceLT, Nat.reduceLeDiff, Nat.zero_add, Bool.not_true, Bool.not_false, Bool.not_eq_true, Bool.and_false, Bool.false_and, D.hole.injEq, ite_true, ite_false, if_true, if_false, reduceIte, Bool.false_eq_true, Nat.lt_add_one, reduceCtorEq, false_and, and_false, exists_false, exists_const, ne_eq, not_false_eq_true, true_or, or_true, or_false, false_or, ot']
  have hm : xs[r.toNat]'(by omega) ∈ xs := List.getElem_mem _
  obtain ⟨o1, f1⟩ := h2 _ hm
  rw [ix_at (atI_get hr0 hr1) f1]
  exact hR _ _ hm ht'
/-- a pick among whole numbers -/
theorem to_pickI {t : D} {o : Bool} {ns : List Int} {n : Nat} {R : D → List D → Prop} (ht : Tape (n + 1) t) (h0 : ns ≠ []) (h1 : ns.length ≤ 10000) (h : ∀ i t', i ∈ ns → Tape n t' → R (.int i) [t', .off]) : S__law_pick [t, .lst o (ns.map .int)] R :=
  to_pick ht (by simpa using h0) (by rw [List.length_map]; exact h1) (fun d hd => by obtain ⟨i, _, rfl⟩ := List.mem_map.mp hd; exact ⟨rfl, rfl⟩) fun d t' hd ht' => by
    obtain ⟨i, hi, rfl⟩ := List.mem_map.mp hd
    exact h i t' hi ht'
theorem fz_il {ns : List Int} : fz (ilD ns) = ilD ns := by show D.lst false (fzL _) = _; rw [fzL_ints]; rfl
theorem fzL_il (cs : List (List Int)) : fzL (cs.map ilD) = cs.map ilD := by
  rw [fzL_eq, List.map_map]
  exact List.map_congr_left fun c _ => fz_il
theorem r_eqIntsNil {o o' : Bool} {ys : List D} {Q : D → Prop} (hy : ∀ y ∈ ys, ∃ i : Int, y = .int i) (h : ∀ b, Q (.bl b)) : o_eq (.lst o ys) (.lst o' []) Q := by
  obtain ⟨ns, rfl⟩ : ∃ ns : List Int, ys = ns.map .int := by
    clear h
    induction ys with
    | nil => exact ⟨[], rfl⟩
    | cons y ys ih =>
      obtain ⟨i, rfl⟩ := hy y List.mem_cons_self
      obtain ⟨ns, rfl⟩ := ih fun z hz => hy z (List.mem_cons_of_mem _ hz)
      exact ⟨i :: ns, rfl⟩
  refine ⟨.list (ns.map .int), .list [], ?_, rfl, shaped_ints ns, shaped_ints [], h _⟩
  show (toPyL (ns.map D.int)).map PyData.list = _
  rw [toPyL_ints]; rfl
theorem atI_map {α β : Type} {f : α → β} {xs : List α} {i : Int} (h0 : 0 ≤ i) (h1 : i < xs.length) : ∃ x ∈ xs, L2.atI (xs.map f) i = some (f x) ∧ xs[i.toNat]? = some x := by
  refine ⟨xs[i.toNat]'(by omega), List.getElem_mem _, ?_, List.getElem?_eq_getElem (by omega)⟩
  rw [atI_get h0 (by rw [List.length_map]; exact h1), List.getElem_map]
end Q

namespace Q
open PySem PySem.Spec PyProof.Rows L2 M Z3
theorem lo_il {ns : List Int} : lstOf (ilD ns) = some (ns.map .int) := rfl
theorem sizeOk {n : Nat} (h : n ≤ 10000000) : n ≤ sizeLine := by rw [sizeLine_eq]; omega
theorem iseq_il {a : DE} {s : DS} {k : List D → DS → Prop} {s1 : DS} {ns : List Int} : (match ilD ns with
  | .tup xs => fzL xs = xs ∧ k xs s1
  | .str z => k (z.cps.toList.map fun c => .str ⟨#[c]⟩) s1
  | d => ∃ xs, lstOf d = some xs ∧ fzL xs = xs ∧ k xs s1) ↔ k (ns.map .int) s1 := by
  constructor
  · rintro ⟨xs, e, _, q⟩; cases e; exact q
  · intro q; exact ⟨_, rfl, fzL_ints ns, q⟩
end Q

namespace Q
open PySem PySem.Spec PyProof.Rows L2 M Z3
theorem all_ints {p : Int → Prop} {ys : List D} (h : ∀ y ∈ ys, ∃ i : Int, y = .int i ∧ p i) : ∃ ns : List Int, ys = ns.map .int ∧ ∀ n ∈ ns, p n := by
  induction ys with
  | nil => exact ⟨[], rfl, by simp⟩
  | cons y ys ih =>
    obtain ⟨i, rfl, hi⟩ := h y List.mem_cons_self
    obtain ⟨ns, rfl, hn⟩ := ih fun z hz => h z (List.mem_cons_of_mem _ hz)
    exact ⟨i :: ns, rfl, fun n hn' => by rcases List.mem_cons.mp hn' with rfl | hn'; exact hi; exact hn n hn'⟩
theorem all_ils {p : List Int → Prop} {ys : List D} (h : ∀ y ∈ ys, ∃ c, y = ilD c ∧ p c) : ∃ cs : List (List Int), ys = cs.map ilD ∧ ∀ c ∈ cs, p c := by
  induction ys with
  | nil => exact ⟨[], rfl, by simp⟩
  | cons y ys ih =>
    obtain ⟨i, rfl, hi⟩ := h y List.mem_cons_self
    obtain ⟨ns, rfl, hn⟩ := ih fun z hz => h z (List.mem_cons_of_mem _ hz)
    exact ⟨i :: ns, rfl, fun n hn' => by rcases List.mem_cons.mp hn' with rfl | hn'; exact hi; exact hn n hn'⟩
theorem book_is {o : Bool} {a b c : D} : D.dK o [((.inr "causes" : Key), a), (.inr "clashes", b), (.inr "undone", c)] = bookX o a b c := rfl
theorem set_same {s : DS} {i : Nat} {d : D} (h : s[i]? = some d) : s.set i d = s := by
  apply List.ext_getElem?
  intro j
  by_cases e : j = i
  · subst e
    rw [List.getElem?_set_self (List.getElem?_eq_some_iff.mp h).1, h]
  · rw [List.getElem?_set_ne (Ne.symm e)]
theorem plv_causes {i j : Nat} {s : DS} {Q : D → DS → Prop} {o o1 : Bool} {xs : List D} {b c x : D} {n : Int} (hd : s[i]? = some (bookX o (.lst o1 xs) b c)) (hj : s[j]? = some (.int n)) (hx : L2.atI xs n = some x) (ho : on x = true) (hf : fz x = x) (q : Q x s) : wplv (plIx (plIx (plN i) (.c (.str "causes"))) (.n j)) s Q :=
  plv_at (c := .lst o1 xs) hd (fun R => pb_causes) ⟨o1, xs, rfl, hx⟩ ho hf hj (set_same hd) q
theorem plv_undone {i j : Nat} {s : DS} {Q : D → DS → Prop} {o o1 : Bool} {xs : List D} {a b x : D} {n : Int} (hd : s[i]? = some (bookX o a b (.lst o1 xs))) (hj : s[j]? = some (.int n)) (hx : L2.atI xs n = some x) (ho : on x = true) (hf : fz x = x) (q : Q x s) : wplv (plIx (plIx (plN i) (.c (.str "undone"))) (.n j)) s Q :=
  plv_at (c := .lst o1 xs) hd (fun R => pb_undone) ⟨o1, xs, rfl, hx⟩ ho hf hj (set_same hd) q
theorem absI_cases (i : Int) : (0 ≤ i ∧ absI i = i) ∨ (i < 0 ∧ absI i = -i) := by
  unfold absI
  split
  · exact .inr ⟨by assumption, rfl⟩
  · exact .inl ⟨by omega, rfl⟩
theorem upto_mem {n : Nat} {x : Int} (h : x ∈ upto n) : 1 ≤ x ∧ x ≤ n := by
  unfold upto at h
  obtain ⟨k, hk, rfl⟩ := List.mem_map.mp h
  rw [List.mem_range] at hk
  omega
theorem upto_len {n : Nat} : (upto n).length = n := by unfold upto; rw [List.length_map, List.length_range]
theorem range_upto {m : Int} (h : 0 ≤ m) : rangeD 1 (m + 1 - 1).toNat = (upto m.toNat).map .int := by
  unfold rangeD upto
  rw [List.map_map, show (m + 1 - 1).toNat = m.toNat by omega]
  refine List.map_congr_left fun k _ => ?_
  show D.int (1 + (k : Nat)) = D.int ((k : Int) + 1)
  rw [Int.add_comm]
theorem range_ints {lo : Int} {n : Nat} : ∃ ns : List Int, rangeD lo n = ns.map .int := ⟨(List.range n).map fun (k : Nat) => lo + (k : Nat), by unfold rangeD; rw [List.map_map]; rfl⟩
theorem flat_len {α : Type} {k : Nat} : ∀ {css : List (List α)} , (∀ c ∈ css, c.length ≤ k) → ∀ {n : Nat}, css.length ≤ n → css.flatten.length ≤ n * k
  | [], _, n, _ => by simp
  | c :: css, h, 0, hl => by simp at hl
  | c :: css, h, n + 1, hl => by
    have h1 := h c List.mem_cons_self
    have h2 := flat_len (css := css) (fun d hd => h d (List.mem_cons_of_mem _ hd)) (n := n) (by simpa using hl)
    rw [List.flatten_cons, List.length_append, Nat.add_mul]
    omega
theorem erase_perm {α : Type} : ∀ {l : List α} {i : Nat} (h : i < l.length), ([l[i]] ++ l.eraseIdx i).Perm l
  | a :: l, 0, h => List.Perm.refl _
  | a :: l, i + 1, h => by
    have := erase_perm (l := l) (i := i) (by simpa using h)
    show (l[i]'(by simpa using h) :: a :: l.eraseIdx i).Perm (a :: l)
    exact (List.Perm.swap _ _ _).trans (this.cons a)
theorem erase_map {α β : Type} {f : α → β} : ∀ {l : List α} {i : Nat}, (l.map f).eraseIdx i = (l.eraseIdx i).map f
  | [], _ => by simp
  | a :: l, 0 => rfl
  | a :: l, i + 1 => by
    show f a :: (l.map f).eraseIdx i = f a :: (l.eraseIdx i).map f
    rw [erase_map]
end Q

namespace Q
open PySem PySem.Spec PyProof.Rows L2 M Z3
theorem fz_spot {σ : List Int} : fz (spotD σ) = spotD σ := by show D.tup (fzL _) = _; rw [fzL_ints]; rfl
theorem fzL_spots (S : List (List Int)) : fzL (S.map spotD) = S.map spotD := by
  rw [fzL_eq, List.map_map]
  exact List.map_congr_left fun c _ => fz_spot
theorem fzL_of {xs : List D} (h : ∀ x ∈ xs, fz x = x) : fzL xs = xs := by
  rw [fzL_eq]
  calc xs.map fz = xs.map id := List.map_congr_left fun c hc => h c hc
    _ = xs := List.map_id xs
theorem cut_mem {xs : List D} {lo hi : Option Int} {d : D} (h : d ∈ M.cutD xs lo hi) : d ∈ xs := List.mem_of_mem_drop (List.mem_of_mem_take h)
theorem cut_len {xs : List D} {lo hi : Option Int} : (M.cutD xs lo hi).length ≤ xs.length := by
  unfold M.cutD
  rw [List.length_take, List.length_drop]
  omega
theorem tyD_lst {o : Bool} {xs : List D} : tyD "list" (.lst o xs) = True := by show ("list" = "list") = True; simp
end Q

namespace Q
open PySem PySem.Spec PyProof.Rows L2 M Z3
theorem wp_kind : ∀ ds R, ds.length = 2 → S__law_kind ds R → w__law_kind (endsB [true, false] R) (startD 2 2 ds) := by
  rintro ds R hl ⟨t, o, xs, n, rfl, ht, hR⟩
  have st : startD 2 2 [t, .lst o xs] = [t, .lst o xs] := rfl
  rw [st]
  unfold w__law_kind
  simp (maxSteps := 2000000) only [x_callZ, x_enumS, x_minD, x_maxD, r_powW, r_mulW, x_izipM, x_glst, x_izip, iz_tup, iz_lst, x_lcV, x_par3, x_lz3, x_lstS, x_star, x_izip3, x_sumL, x_tru, x_rg2, x_metP, x_yes, lo_l, so_l, so_t, tr_int, x_clear, ex_plB, pb_causes, pb_clashes, pb_undone, on_book, x_iseq, is_tup, is_lst, x_seq, x_ifS, x_asg, x_par, x_for, x_gname, x_gnil, x_gcons, x_gtup, x_gixP, x_tup, x_lst, x_cons, x_nil, x_dK, x_op2, x_op1, x_opL, x_ret, x_mov, x_var, x_fz, x_c, x_next, x_drop, x_if, x_and, x_or, x_not, x_chain, x_tchain, x_tcmp, x_tval, x_tand, x_tor, x_tnot, x_isi, x_call, x_args0, x_argsV, x_argsL, x_put0, x_putN, x_putS, x_evN, x_evE, x_ev0, x_evC, x_atN, x_atD, x_metN, x_pn, x_ps, x_sl, x_rg1, x_orT, x_lrg2, x_endR, x_endN, x_outT, x_outF, x_out0, x_keyC, x_keyN, y_int, y_bl, y_str, y_non, y_tup, y_lst, y_frl, y_nil, y_cons, ats_nil, ats_cons, onAt_0, onAt_s, on_tape, on_int, on_str, on_bl, on_non, on_tup, on_lst, on_hole, on_frl, true_and, and_true, and_assoc, List.getElem?_cons_zero, List.getElem?_cons_succ, Option.some.injEq, exists_and_left, exists_eq_left', exists_eq_left, exists_eq_right, exists_eq_right', tape_left, tape_spot, tape_cells, set_spot, set_left, r_int, r_mod, r_fdiv, r_lt, r_le, r_gt, r_ge, r_eq, r_ne, r_eqS, r_neS, r_add, r_addL, r_sub, r_mul, r_mulL, r_pow, r_intB, r_abs, r_neg, r_lenL, r_lenT, r_lenF, r_append, r_popAt, r_extend, r_tyL, r_min, fz_fz, fzL_fz, List.all_cons, List.all_nil, Bool.and_true, Bool.true_and, D.tup.injEq, D.int.injEq, D.bl.injEq, D.str.injEq, D.lst.injEq, List.cons.injEq, List.length_cons, List.length_nil, ex_plN, List.set_cons_succ, List.set_cons_zero, decide_eq_true_eq, Nat.reduceAdd, Nat.reduceLT, Nat.reduceLeDiff, Nat.zero_add, Bool.not_true, Bool.not_false, Bool.not_eq_true, Bool.and_false, Bool.false_and, D.hole.injEq, ite_true, ite_false, if_true, if_false, reduceIte, Bool.false_eq_true, Nat.lt_add_one, reduceCtorEq, false_and, and_false, exists_false, exists_const, ne_eq, not_false_eq_true, true_or, or_true, or_false, false_or, ht.on]
  split
  · rename_i h
    intro v
    refine to_draw (n := n) ht (by omega) (by omega) fun r t1 hr0 hr1 ht1 => ?_
    simp (maxSteps := 2000000) only [x_callZ, x_enumS, x_minD, x_maxD, r_powW, r_mulW, x_izipM, x_glst, x_izip, iz_tup, iz_lst, x_lcV, x_par3, x_lz3, x_lstS, x_star, x_izip3, x_sumL, x_tru, x_rg2, x_metP, x_yes, lo_l, so_l, so_t, tr_int, x_clear, ex_plB, pb_causes, pb_clashes, pb_undone, on_book, x_iseq, is_tup, is_lst, x_seq, x_ifS, x_asg, x_par, x_for, x_gname, x_gnil, x_gcons, x_gtup, x_gixP, x_tup, x_lst, x_cons, x_nil, x_dK, x_op2, x_op1, x_opL, x_ret, x_mov, x_var, x_fz, x_c, x_next, x_drop, x_if, x_and, x_or, x_not, x_chain, x_tchain, x_tcmp, x_tval, x_tand, x_tor, x_tnot, x_isi, x_call, x_args0, x_argsV, x_argsL, x_put0, x_putN, x_putS, x_evN, x_evE, x_ev0, x_evC, x_atN, x_atD, x_metN, x_pn, x_ps, x_sl, x_rg1, x_orT, x_lrg2, x_endR, x_endN, x_outT, x_outF, x_out0, x_keyC, x_keyN, y_int, y_bl, y_str, y_non, y_tup, y_lst, y_frl, y_nil, y_cons, ats_nil, ats_cons, onAt_0, onAt_s, on_tape, on_int, on_str, on_bl, on_non, on_tup, on_lst, on_hole, on_frl, true_and, and_true, and_assoc, List.getElem?_cons_zero, List.getElem?_cons_succ, Option.some.injEq, exists_and_left, exists_eq_left', exists_eq_left, exists_eq_right, exists_eq_right', tape_left, tape_spot, tape_cells, set_spot, set_left, r_int, r_mod, r_fdiv, r_lt, r_le, r_gt, r_ge, r_eq, r_ne, r_eqS, r_neS, r_add, r_addL, r_sub, r_mul, r_mulL, r_pow, r_intB, r_abs, r_neg, r_lenL, r_lenT, r_lenF, r_append, r_popAt, r_extend, r_tyL, r_min, fz_fz, fzL_fz, List.all_cons, List.all_nil, Bool.and_true, Bool.true_and, D.tup.injEq, D.int.injEq, D.bl.injEq, D.str.injEq, D.lst.injEq, List.cons.injEq, List.length_cons, List.length_nil, ex_plN, List.set_cons_succ, List.set_cons_zero, decide_eq_true_eq, Nat.reduceAdd, Nat.reduceLT, Nat.reduceLeDiff, Nat.zero_add, Bool.not_true, Bool.not_false, Bool.not_eq_true, Bool.and_false, Bool.false_and, D.hole.injEq, ite_true, ite_false, if_true, if_false, reduceIte, Bool.false_eq_true, Nat.lt_add_one, reduceCtorEq, false_and, and_false, exists_false, exists_const, ne_eq, not_false_eq_true, true_or, or_true, or_false, false_or, ht1.on]
    exact hR _ _ (fun _ => by omega) ht1
  · exact hR _ _ (fun h => by cases h) (ht.mono (by omega))
theorem wp_folk : ∀ ds R, ds.length = 1 → S__law_folk ds R → w__law_folk (endsB [true] R) (startD 1 1 ds) := by
  rintro ds R hl ⟨t, n, rfl, ht, hR⟩
  have st : startD 1 1 [t] = [t] := rfl
  rw [st]
  unfold w__law_folk
  simp (maxSteps := 2000000) only [x_callZ, x_enumS, x_minD, x_maxD, r_powW, r_mulW, x_izipM, x_glst, x_izip, iz_tup, iz_lst, x_lcV, x_par3, x_lz3, x_lstS, x_star, x_izip3, x_sumL, x_tru, x_rg2, x_metP, x_yes, lo_l, so_l, so_t, tr_int, x_clear, ex_plB, pb_causes, pb_clashes, pb_undone, on_book, x_iseq, is_tup, is_lst, x_seq, x_ifS, x_asg, x_par, x_for, x_gname, x_gnil, x_gcons, x_gtup, x_gixP, x_tup, x_lst, x_cons, x_nil, x_dK, x_op2, x_op1, x_opL, x_ret, x_mov, x_var, x_fz, x_c, x_next, x_drop, x_if, x_and, x_or, x_not, x_chain, x_tchain, x_tcmp, x_tval, x_tand, x_tor, x_tnot, x_isi, x_call, x_args0, x_argsV, x_argsL, x_put0, x_putN, x_putS, x_evN, x_evE, x_ev0, x_evC, x_atN, x_atD, x_metN, x_pn, x_ps, x_sl, x_rg1, x_orT, x_lrg2, x_endR, x_endN, x_outT, x_outF, x_out0, x_keyC, x_keyN, y_int, y_bl, y_str, y_non, y_tup, y_lst, y_frl, y_nil, y_cons, ats_nil, ats_cons, onAt_0, onAt_s, on_tape, on_int, on_str, on_bl, on_non, on_tup, on_lst, on_hole, on_frl, true_and, and_true, and_assoc, List.getElem?_cons_zero, List.getElem?_cons_succ, Option.some.injEq, exists_and_left, exists_eq_left', exists_eq_left, exists_eq_right, exists_eq_right', tape_left, tape_spot, tape_cells, set_spot, set_left, r_int, r_mod, r_fdiv, r_lt, r_le, r_gt, r_ge, r_eq, r_ne, r_eqS, r_neS, r_add, r_addL, r_sub, r_mul, r_mulL, r_pow, r_intB, r_abs, r_neg, r_lenL, r_lenT, r_lenF, r_append, r_popAt, r_extend, r_tyL, r_min, fz_fz, fzL_fz, List.all_cons, List.all_nil, Bool.and_true, Bool.true_and, D.tup.injEq, D.int.injEq, D.bl.injEq, D.str.injEq, D.lst.injEq, List.cons.injEq, List.length_cons, List.length_nil, ex_plN, List.set_cons_succ, List.set_cons_zero, decide_eq_true_eq, Nat.reduceAdd, Nat.reduceLT, Nat.reduceLeDiff, Nat.zero_add, Bool.not_true, Bool.not_false, Bool.not_eq_true, Bool.and_false, Bool.false_and, D.hole.injEq, ite_true, ite_false, if_true, if_false, reduceIte, Bool.false_eq_true, Nat.lt_add_one, reduceCtorEq, false_and, and_false, exists_false, exists_const, ne_eq, not_false_eq_true, true_or, or_true, or_false, false_or, ht.on]
  intro v
  refine to_draw (n := n + 3) ht (by omega) (by omega) fun r1 t1 h10 h11 ht1 => ?_
  simp (maxSteps := 2000000) only [x_callZ, x_enumS, x_minD, x_maxD, r_powW, r_mulW, x_izipM, x_glst, x_izip, iz_tup, iz_lst, x_lcV, x_par3, x_lz3, x_lstS, x_star, x_izip3, x_sumL, x_tru, x_rg2, x_metP, x_yes, lo_l, so_l, so_t, tr_int, x_clear, ex_plB, pb_causes, pb_clashes, pb_undone, on_book, x_iseq, is_tup, is_lst, x_seq, x_ifS, x_asg, x_par, x_for, x_gname, x_gnil, x_gcons, x_gtup, x_gixP, x_tup, x_lst, x_cons, x_nil, x_dK, x_op2, x_op1, x_opL, x_ret, x_mov, x_var, x_fz, x_c, x_next, x_drop, x_if, x_and, x_or, x_not, x_chain, x_tchain, x_tcmp, x_tval, x_tand, x_tor, x_tnot, x_isi, x_call, x_args0, x_argsV, x_argsL, x_put0, x_putN, x_putS, x_evN, x_evE, x_ev0, x_evC, x_atN, x_atD, x_metN, x_pn, x_ps, x_sl, x_rg1, x_orT, x_lrg2, x_endR, x_endN, x_outT, x_outF, x_out0, x_keyC, x_keyN, y_int, y_bl, y_str, y_non, y_tup, y_lst, y_frl, y_nil, y_cons, ats_nil, ats_cons, onAt_0, onAt_s, on_tape, on_int, on_str, on_bl, on_non, on_tup, on_lst, on_hole, on_frl, true_and, and_true, and_assoc, List.getElem?_cons_zero, List.getElem?_cons_succ, Option.some.injEq, exists_and_left, exists_eq_left', exists_eq_left, exists_eq_right, exists_eq_right', tape_left, tape_spot, tape_cells, set_spot, set_left, r_int, r_mod, r_fdiv, r_lt, r_le, r_gt, r_ge, r_eq, r_ne, r_eqS, r_neS, r_add, r_addL, r_sub, r_mul, r_mulL, r_pow, r_intB, r_abs, r_neg, r_lenL, r_lenT, r_lenF, r_append, r_popAt, r_extend, r_tyL, r_min, fz_fz, fzL_fz, List.all_cons, List.all_nil, Bool.and_true, Bool.true_and, D.tup.injEq, D.int.injEq, D.bl.injEq, D.str.injEq, D.lst.injEq, List.cons.injEq, List.length_cons, List.length_nil, ex_plN, List.set_cons_succ, List.set_cons_zero, decide_eq_true_eq, Nat.reduceAdd, Nat.reduceLT, Nat.reduceLeDiff, Nat.zero_add, Bool.not_true, Bool.not_false, Bool.not_eq_true, Bool.and_false, Bool.false_and, D.hole.injEq, ite_true, ite_false, if_true, if_false, reduceIte, Bool.false_eq_true, Nat.lt_add_one, reduceCtorEq, false_and, and_false, exists_false, exists_const, ne_eq, not_false_eq_true, true_or, or_true, or_false, false_or, ht1.on]
  intro v
  refine to_draw (n := n + 2) ht1 (by omega) (by omega) fun r2 t2 h20 h21 ht2 => ?_
  simp (maxSteps := 2000000) only [x_callZ, x_enumS, x_minD, x_maxD, r_powW, r_mulW, x_izipM, x_glst, x_izip, iz_tup, iz_lst, x_lcV, x_par3, x_lz3, x_lstS, x_star, x_izip3, x_sumL, x_tru, x_rg2, x_metP, x_yes, lo_l, so_l, so_t, tr_int, x_clear, ex_plB, pb_causes, pb_clashes, pb_undone, on_book, x_iseq, is_tup, is_lst, x_seq, x_ifS, x_asg, x_par, x_for, x_gname, x_gnil, x_gcons, x_gtup, x_gixP, x_tup, x_lst, x_cons, x_nil, x_dK, x_op2, x_op1, x_opL, x_ret, x_mov, x_var, x_fz, x_c, x_next, x_drop, x_if, x_and, x_or, x_not, x_chain, x_tchain, x_tcmp, x_tval, x_tand, x_tor, x_tnot, x_isi, x_call, x_args0, x_argsV, x_argsL, x_put0, x_putN, x_putS, x_evN, x_evE, x_ev0, x_evC, x_atN, x_atD, x_metN, x_pn, x_ps, x_sl, x_rg1, x_orT, x_lrg2, x_endR, x_endN, x_outT, x_outF, x_out0, x_keyC, x_keyN, y_int, y_bl, y_str, y_non, y_tup, y_lst, y_frl, y_nil, y_cons, ats_nil, ats_cons, onAt_0, onAt_s, on_tape, on_int, on_str, on_bl, on_non, on_tup, on_lst, on_hole, on_frl, true_and, and_true, and_assoc, List.getElem?_cons_zero, List.getElem?_cons_succ, Option.some.injEq, exists_and_left, exists_eq_left', exists_eq_left, exists_eq_right, exists_eq_right', tape_left, tape_spot, tape_cells, set_spot, set_left, r_int, r_mod, r_fdiv, r_lt, r_le, r_gt, r_ge, r_eq, r_ne, r_eqS, r_neS, r_add, r_addL, r_sub, r_mul, r_mulL, r_pow, r_intB, r_abs, r_neg, r_lenL, r_lenT, r_lenF, r_append, r_popAt, r_extend, r_tyL, r_min, fz_fz, fzL_fz, List.all_cons, List.all_nil, Bool.and_true, Bool.true_and, D.tup.injEq, D.int.injEq, D.bl.injEq, D.str.injEq, D.lst.injEq, List.cons.injEq, List.length_cons, List.length_nil, ex_plN, List.set_cons_succ, List.set_cons_zero, decide_eq_true_eq, Nat.reduceAdd, Nat.reduceLT, Nat.reduceLeDiff, Nat.zero_add, Bool.not_true, Bool.not_false, Bool.not_eq_true, Bool.and_false, Bool.false_and, D.hole.injEq, ite_true, ite_false, if_true, if_false, reduceIte, Bool.false_eq_true, Nat.lt_add_one, reduceCtorEq, false_and, and_false, exists_false, exists_const, ne_eq, not_false_eq_true, true_or, or_true, or_false, false_or, ht2.on]
  intro v
  refine to_draw (n := n + 1) ht2 (by omega) (by omega) fun r3 t3 h30 h31 ht3 => ?_
  simp (maxSteps := 2000000) only [x_callZ, x_enumS, x_minD, x_maxD, r_powW, r_mulW, x_izipM, x_glst, x_izip, iz_tup, iz_lst, x_lcV, x_par3, x_lz3, x_lstS, x_star, x_izip3, x_sumL, x_tru, x_rg2, x_metP, x_yes, lo_l, so_l, so_t, tr_int, x_clear, ex_plB, pb_causes, pb_clashes, pb_undone, on_book, x_iseq, is_tup, is_lst, x_seq, x_ifS, x_asg, x_par, x_for, x_gname, x_gnil, x_gcons, x_gtup, x_gixP, x_tup, x_lst, x_cons, x_nil, x_dK, x_op2, x_op1, x_opL, x_ret, x_mov, x_var, x_fz, x_c, x_next, x_drop, x_if, x_and, x_or, x_not, x_chain, x_tchain, x_tcmp, x_tval, x_tand, x_tor, x_tnot, x_isi, x_call, x_args0, x_argsV, x_argsL, x_put0, x_putN, x_putS, x_evN, x_evE, x_ev0, x_evC, x_atN, x_atD, x_metN, x_pn, x_ps, x_sl, x_rg1, x_orT, x_lrg2, x_endR, x_endN, x_outT, x_outF, x_out0, x_keyC, x_keyN, y_int, y_bl, y_str, y_non, y_tup, y_lst, y_frl, y_nil, y_cons, ats_nil, ats_cons, onAt_0, onAt_s, on_tape, on_int, on_str, on_bl, on_non, on_tup, on_lst, on_hole, on_frl, true_and, and_true, and_assoc, List.getElem?_cons_zero, List.getElem?_cons_succ, Option.some.injEq, exists_and_left, exists_eq_left', exists_eq_left, exists_eq_right, exists_eq_right', tape_left, tape_spot, tape_cells, set_spot, set_left, r_int, r_mod, r_fdiv, r_lt, r_le, r_gt, r_ge, r_eq, r_ne, r_eqS, r_neS, r_add, r_addL, r_sub, r_mul, r_mulL, r_pow, r_intB, r_abs, r_neg, r_lenL, r_lenT, r_lenF, r_append, r_popAt, r_extend, r_tyL, r_min, fz_fz, fzL_fz, List.all_cons, List.all_nil, Bool.and_true, Bool.true_and, D.tup.injEq, D.int.injEq, D.bl.injEq, D.str.injEq, D.lst.injEq, List.cons.injEq, List.length_cons, List.length_nil, ex_plN, List.set_cons_succ, List.set_cons_zero, decide_eq_true_eq, Nat.reduceAdd, Nat.reduceLT, Nat.reduceLeDiff, Nat.zero_add, Bool.not_true, Bool.not_false, Bool.not_eq_true, Bool.and_false, Bool.false_and, D.hole.injEq, ite_true, ite_false, if_true, if_false, reduceIte, Bool.false_eq_true, Nat.lt_add_one, reduceCtorEq, false_and, and_false, exists_false, exists_const, ne_eq, not_false_eq_true, true_or, or_true, or_false, false_or, ht3.on]
  intro v
  refine to_pickI (ns := [r1, r2, r3]) (n := n) ht3 (by simp) (by simp) fun r t4 hr ht4 => ?_
  have hr' : 0 ≤ r ∧ r < 30 := by
    simp only [List.mem_cons, List.not_mem_nil, or_false] at hr
    omega
  simp (maxSteps := 2000000) only [x_callZ, x_enumS, x_minD, x_maxD, r_powW, r_mulW, x_izipM, x_glst, x_izip, iz_tup, iz_lst, x_lcV, x_par3, x_lz3, x_lstS, x_star, x_izip3, x_sumL, x_tru, x_rg2, x_metP, x_yes, lo_l, so_l, so_t, tr_int, x_clear, ex_plB, pb_causes, pb_clashes, pb_undone, on_book, x_iseq, is_tup, is_lst, x_seq, x_ifS, x_asg, x_par, x_for, x_gname, x_gnil, x_gcons, x_gtup, x_gixP, x_tup, x_lst, x_cons, x_nil, x_dK, x_op2, x_op1, x_opL, x_ret, x_mov, x_var, x_fz, x_c, x_next, x_drop, x_if, x_and, x_or, x_not, x_chain, x_tchain, x_tcmp, x_tval, x_tand, x_tor, x_tnot, x_isi, x_call, x_args0, x_argsV, x_argsL, x_put0, x_putN, x_putS, x_evN, x_evE, x_ev0, x_evC, x_atN, x_atD, x_metN, x_pn, x_ps, x_sl, x_rg1, x_orT, x_lrg2, x_endR, x_endN, x_outT, x_outF, x_out0, x_keyC, x_keyN, y_int, y_bl, y_str, y_non, y_tup, y_lst, y_frl, y_nil, y_cons, ats_nil, ats_cons, onAt_0, onAt_s, on_tape, on_int, on_str, on_bl, on_non, on_tup, on_lst, on_hole, on_frl, true_and, and_true, and_assoc, List.getElem?_cons_zero, List.getElem?_cons_succ, Option.some.injEq, exists_and_left, exists_eq_left', exists_eq_left, exists_eq_right, exists_eq_right', tape_left, tape_spot, tape_cells, set_spot, set_left, r_int, r_mod, r_fdiv, r_lt, r_le, r_gt, r_ge, r_eq, r_ne, r_eqS, r_neS, r_add, r_addL, r_sub, r_mul, r_mulL, r_pow, r_intB, r_abs, r_neg, r_lenL, r_lenT, r_lenF, r_append, r_popAt, r_extend, r_tyL, r_min, fz_fz, fzL_fz, List.all_cons, List.all_nil, Bool.and_true, Bool.true_and, D.tup.injEq, D.int.injEq, D.bl.injEq, D.str.injEq, D.lst.injEq, List.cons.injEq, List.length_cons, List.length_nil, ex_plN, List.set_cons_succ, List.set_cons_zero, decide_eq_true_eq, Nat.reduceAdd, Nat.reduceLT, Nat.reduceLeDiff, Nat.zero_add, Bool.not_true, Bool.not_false, Bool.not_eq_true, Bool.and_false, Bool.false_and, D.hole.injEq, ite_true, ite_false, if_true, if_false, reduceIte, Bool.false_eq_true, Nat.lt_add_one, reduceCtorEq, false_and, and_false, exists_false, exists_const, ne_eq, not_false_eq_true, true_or, or_true, or_false, false_or, ht4.on]
  exact hR _ _ (by omega) (by omega) ht4
end Q

namespace Q
open PySem PySem.Spec PyProof.Rows L2 M Z3
theorem wp_done : ∀ ds R, ds.length = 3 → S__law_done ds R → w__law_done (endsB [true, true, true] R) (startD 3 8 ds) := by
  rintro ds R hl ⟨t, o1, cs, o2, fs, n, rfl, ht, hlen, h60, hc, hf, hR⟩
  have st : startD 3 8 [t, .lst o1 (cs.map ilD), .lst o2 (fs.map ilD)] = [t, .lst o1 (cs.map ilD), .lst o2 (fs.map ilD), .off, .off, .off, .off, .off] := rfl
  rw [st]
  unfold w__law_done
  simp (maxSteps := 2000000) only [x_callZ, x_enumS, x_minD, x_maxD, r_powW, r_mulW, x_izipM, x_glst, x_izip, iz_tup, iz_lst, x_lcV, x_par3, x_lz3, x_lstS, x_star, x_izip3, x_sumL, x_tru, x_rg2, x_metP, x_yes, lo_l, so_l, so_t, tr_int, x_clear, ex_plB, pb_causes, pb_clashes, pb_undone, on_book, x_iseq, is_tup, is_lst, x_seq, x_ifS, x_asg, x_par, x_for, x_gname, x_gnil, x_gcons, x_gtup, x_gixP, x_tup, x_lst, x_cons, x_nil, x_dK, x_op2, x_op1, x_opL, x_ret, x_mov, x_var, x_fz, x_c, x_next, x_drop, x_if, x_and, x_or, x_not, x_chain, x_tchain, x_tcmp, x_tval, x_tand, x_tor, x_tnot, x_isi, x_call, x_args0, x_argsV, x_argsL, x_put0, x_putN, x_putS, x_evN, x_evE, x_ev0, x_evC, x_atN, x_atD, x_metN, x_pn, x_ps, x_sl, x_rg1, x_orT, x_lrg2, x_endR, x_endN, x_outT, x_outF, x_out0, x_keyC, x_keyN, y_int, y_bl, y_str, y_non, y_tup, y_lst, y_frl, y_nil, y_cons, ats_nil, ats_cons, onAt_0, onAt_s, on_tape, on_int, on_str, on_bl, on_non, on_tup, on_lst, on_hole, on_frl, true_and, and_true, and_assoc, List.getElem?_cons_zero, List.getElem?_cons_succ, Option.some.injEq, exists_and_left, exists_eq_left', exists_eq_left, exists_eq_right, exists_eq_right', tape_left, tape_spot, tape_cells, set_spot, set_left, r_int, r_mod, r_fdiv, r_lt, r_le, r_gt, r_ge, r_eq, r_ne, r_eqS, r_neS, r_add, r_addL, r_sub, r_mul, r_mulL, r_pow, r_intB, r_abs, r_neg, r_lenL, r_lenT, r_lenF, r_append, r_popAt, r_extend, r_tyL, r_min, fz_fz, fzL_fz, List.all_cons, List.all_nil, Bool.and_true, Bool.true_and, D.tup.injEq, D.int.injEq, D.bl.injEq, D.str.injEq, D.lst.injEq, List.cons.injEq, List.length_cons, List.length_nil, ex_plN, List.set_cons_succ, List.set_cons_zero, decide_eq_true_eq, Nat.reduceAdd, Nat.reduceLT, Nat.reduceLeDiff, Nat.zero_add, Bool.not_true, Bool.not_false, Bool.not_eq_true, Bool.and_false, Bool.false_and, D.hole.injEq, ite_true, ite_false, if_true, if_false, reduceIte, Bool.false_eq_true, Nat.lt_add_one, reduceCtorEq, false_and, and_false, exists_false, exists_const, ne_eq, not_false_eq_true, true_or, or_true, or_false, false_or, ht.on]
  intro v
  refine to_pickI (ns := [1, 2, 3]) (n := n + cs.length) (ht.mono (by omega)) (by simp) (by simp) fun q t1 hq ht1 => ?_
  have hq' : 1 ≤ q ∧ q ≤ 3 := by
    simp only [List.mem_cons, List.not_mem_nil, or_false] at hq
    omega
  simp (maxSteps := 2000000) only [x_callZ, x_enumS, x_minD, x_maxD, r_powW, r_mulW, x_izipM, x_glst, x_izip, iz_tup, iz_lst, x_lcV, x_par3, x_lz3, x_lstS, x_star, x_izip3, x_sumL, x_tru, x_rg2, x_metP, x_yes, lo_l, so_l, so_t, tr_int, x_clear, ex_plB, pb_causes, pb_clashes, pb_undone, on_book, x_iseq, is_tup, is_lst, x_seq, x_ifS, x_asg, x_par, x_for, x_gname, x_gnil, x_gcons, x_gtup, x_gixP, x_tup, x_lst, x_cons, x_nil, x_dK, x_op2, x_op1, x_opL, x_ret, x_mov, x_var, x_fz, x_c, x_next, x_drop, x_if, x_and, x_or, x_not, x_chain, x_tchain, x_tcmp, x_tval, x_tand, x_tor, x_tnot, x_isi, x_call, x_args0, x_argsV, x_argsL, x_put0, x_putN, x_putS, x_evN, x_evE, x_ev0, x_evC, x_atN, x_atD, x_metN, x_pn, x_ps, x_sl, x_rg1, x_orT, x_lrg2, x_endR, x_endN, x_outT, x_outF, x_out0, x_keyC, x_keyN, y_int, y_bl, y_str, y_non, y_tup, y_lst, y_frl, y_nil, y_cons, ats_nil, ats_cons, onAt_0, onAt_s, on_tape, on_int, on_str, on_bl, on_non, on_tup, on_lst, on_hole, on_frl, true_and, and_true, and_assoc, List.getElem?_cons_zero, List.getElem?_cons_succ, Option.some.injEq, exists_and_left, exists_eq_left', exists_eq_left, exists_eq_right, exists_eq_right', tape_left, tape_spot, tape_cells, set_spot, set_left, r_int, r_mod, r_fdiv, r_lt, r_le, r_gt, r_ge, r_eq, r_ne, r_eqS, r_neS, r_add, r_addL, r_sub, r_mul, r_mulL, r_pow, r_intB, r_abs, r_neg, r_lenL, r_lenT, r_lenF, r_append, r_popAt, r_extend, r_tyL, r_min, fz_fz, fzL_fz, List.all_cons, List.all_nil, Bool.and_true, Bool.true_and, D.tup.injEq, D.int.injEq, D.bl.injEq, D.str.injEq, D.lst.injEq, List.cons.injEq, List.length_cons, List.length_nil, ex_plN, List.set_cons_succ, List.set_cons_zero, decide_eq_true_eq, Nat.reduceAdd, Nat.reduceLT, Nat.reduceLeDiff, Nat.zero_add, Bool.not_true, Bool.not_false, Bool.not_eq_true, Bool.and_false, Bool.false_and, D.hole.injEq, ite_true, ite_false, if_true, if_false, reduceIte, Bool.false_eq_true, Nat.lt_add_one, reduceCtorEq, false_and, and_false, exists_false, exists_const, ne_eq, not_false_eq_true, true_or, or_true, or_false, false_or, ht1.on, List.length_map]
  refine ⟨by omega, by omega, ?_⟩
  refine for_inv (fun i s => ∃ t' zs a b c, s = [t', .lst o1 (cs.map ilD), .lst o2 (fs.map ilD), .lst true (zs.map .int), .int q, a, b, c] ∧ Tape (n + cs.length - i) t' ∧ zs.length ≤ i ∧ ∀ z ∈ zs, (0 : Int) ≤ z ∧ z < (cs.length : Nat)) ⟨t1, [], _, _, _, rfl, ht1, Nat.le_refl _, by simp⟩ ?_ ?_
  · rintro i x hx s ⟨t', zs, a, b, c, rfl, ht', hzl, hzs⟩ E' hnx - - -
    obtain ⟨hi, rfl⟩ := rangeD_at hx
    have hic : i < cs.length := by omega
    obtain ⟨c1, hc1, e1, _⟩ := atI_map (f := ilD) (xs := cs) (i := 0 + (i : Nat)) (by omega) (by omega)
    obtain ⟨c2, hc2, e2, _⟩ := atI_map (f := ilD) (xs := fs) (i := 0 + (i : Nat)) (by omega) (by omega)
    have l1 := hc c1 hc1
    have l2 := hf c2 hc2
    have e1 : L2.atI (cs.map ilD) (0 + (i : Nat)) = some (.lst false (c1.map .int)) := e1
    have e2 : L2.atI (fs.map ilD) (0 + (i : Nat)) = some (.lst false (c2.map .int)) := e2
    simp (maxSteps := 2000000) only [x_callZ, x_enumS, x_minD, x_maxD, r_powW, r_mulW, x_izipM, x_glst, x_izip, iz_tup, iz_lst, x_lcV, x_par3, x_lz3, x_lstS, x_star, x_izip3, x_sumL, x_tru, x_rg2, x_metP, x_yes, lo_l, so_l, so_t, tr_int, x_clear, ex_plB, pb_causes, pb_clashes, pb_undone, on_book, x_iseq, is_tup, is_lst, x_seq, x_ifS, x_asg, x_par, x_for, x_gname, x_gnil, x_gcons, x_gtup, x_gixP, x_tup, x_lst, x_cons, x_nil, x_dK, x_op2, x_op1, x_opL, x_ret, x_mov, x_var, x_fz, x_c, x_next, x_drop, x_if, x_and, x_or, x_not, x_chain, x_tchain, x_tcmp, x_tval, x_tand, x_tor, x_tnot, x_isi, x_call, x_args0, x_argsV, x_argsL, x_put0, x_putN, x_putS, x_evN, x_evE, x_ev0, x_evC, x_atN, x_atD, x_metN, x_pn, x_ps, x_sl, x_rg1, x_orT, x_lrg2, x_endR, x_endN, x_outT, x_outF, x_out0, x_keyC, x_keyN, y_int, y_bl, y_str, y_non, y_tup, y_lst, y_frl, y_nil, y_cons, ats_nil, ats_cons, onAt_0, onAt_s, on_tape, on_int, on_str, on_bl, on_non, on_tup, on_lst, on_hole, on_frl, true_and, and_true, and_assoc, List.getElem?_cons_zero, List.getElem?_cons_succ, Option.some.injEq, exists_and_left, exists_eq_left', exists_eq_left, exists_eq_right, exists_eq_right', tape_left, tape_spot, tape_cells, set_spot, set_left, r_int, r_mod, r_fdiv, r_lt, r_le, r_gt, r_ge, r_eq, r_ne, r_eqS, r_neS, r_add, r_addL, r_sub, r_mul, r_mulL, r_pow, r_intB, r_abs, r_neg, r_lenL, r_lenT, r_lenF, r_append, r_popAt, r_extend, r_tyL, r_min, fz_fz, fzL_fz, List.all_cons, List.all_nil, Bool.and_true, Bool.true_and, D.tup.injEq, D.int.injEq, D.bl.injEq, D.str.injEq, D.lst.injEq, List.cons.injEq, List.length_cons, List.length_nil, ex_plN, List.set_cons_succ, List.set_cons_zero, decide_eq_true_eq, Nat.reduceAdd, Nat.reduceLT, Nat.reduceLeDiff, Nat.zero_add, Bool.not_true, Bool.not_false, Bool.not_eq_true, Bool.and_false, Bool.false_and, D.hole.injEq, ite_true, ite_false, if_true, if_false, reduceIte, Bool.false_eq_true, Nat.lt_add_one, reduceCtorEq, false_and, and_false, exists_false, exists_const, ne_eq, not_false_eq_true, true_or, or_true, or_false, false_or, ht'.on]
    rw [ix_at e1 fz_il]
    simp (maxSteps := 2000000) only [x_callZ, x_enumS, x_minD, x_maxD, r_powW, r_mulW, x_izipM, x_glst, x_izip, iz_tup, iz_lst, x_lcV, x_par3, x_lz3, x_lstS, x_star, x_izip3, x_sumL, x_tru, x_rg2, x_metP, x_yes, lo_l, so_l, so_t, tr_int, x_clear, ex_plB, pb_causes, pb_clashes, pb_undone, on_book, x_iseq, is_tup, is_lst, x_seq, x_ifS, x_asg, x_par, x_for, x_gname, x_gnil, x_gcons, x_gtup, x_gixP, x_tup, x_lst, x_cons, x_nil, x_dK, x_op2, x_op1, x_opL, x_ret, x_mov, x_var, x_fz, x_c, x_next, x_drop, x_if, x_and, x_or, x_not, x_chain, x_tchain, x_tcmp, x_tval, x_tand, x_tor, x_tnot, x_isi, x_call, x_args0, x_argsV, x_argsL, x_put0, x_putN, x_putS, x_evN, x_evE, x_ev0, x_evC, x_atN, x_atD, x_metN, x_pn, x_ps, x_sl, x_rg1, x_orT, x_lrg2, x_endR, x_endN, x_outT, x_outF, x_out0, x_keyC, x_keyN, y_int, y_bl, y_str, y_non, y_tup, y_lst, y_frl, y_nil, y_cons, ats_nil, ats_cons, onAt_0, onAt_s, on_tape, on_int, on_str, on_bl, on_non, on_tup, on_lst, on_hole, on_frl, true_and, and_true, and_assoc, List.getElem?_cons_zero, List.getElem?_cons_succ, Option.some.injEq, exists_and_left, exists_eq_left', exists_eq_left, exists_eq_right, exists_eq_right', tape_left, tape_spot, tape_cells, set_spot, set_left, r_int, r_mod, r_fdiv, r_lt, r_le, r_gt, r_ge, r_eq, r_ne, r_eqS, r_neS, r_add, r_addL, r_sub, r_mul, r_mulL, r_pow, r_intB, r_abs, r_neg, r_lenL, r_lenT, r_lenF, r_append, r_popAt, r_extend, r_tyL, r_min, fz_fz, fzL_fz, List.all_cons, List.all_nil, Bool.and_true, Bool.true_and, D.tup.injEq, D.int.injEq, D.bl.injEq, D.str.injEq, D.lst.injEq, List.cons.injEq, List.length_cons, List.length_nil, ex_plN, List.set_cons_succ, List.set_cons_zero, decide_eq_true_eq, Nat.reduceAdd, Nat.reduceLT, Nat.reduceLeDiff, Nat.zero_add, Bool.not_true, Bool.not_false, Bool.not_eq_true, Bool.and_false, Bool.false_and, D.hole.injEq, ite_true, ite_false, if_true, if_false, reduceIte, Bool.false_eq_true, Nat.lt_add_one, reduceCtorEq, false_and, and_false, exists_false, exists_const, ne_eq, not_false_eq_true, true_or, or_true, or_false, false_or, ht'.on, fzL_ints, List.length_map]
    refine ⟨sizeOk (by omega), by decide, ?_⟩
    refine lc_any (i := 0) (fun _ s => s = [t', .lst o1 (cs.map ilD), .lst o2 (fs.map ilD), .lst true (zs.map .int), .int q, .int (0 + (i : Nat)), b, .off]) (fun y => ∃ i : Int, y = .int i) rfl ?_ ?_
    · rintro j x hx s rfl K1 K2 h1 h2
      obtain ⟨k, _, rfl⟩ := List.mem_map.mp (List.mem_of_getElem? hx)
      simp (maxSteps := 2000000) only [x_callZ, x_enumS, x_minD, x_maxD, r_powW, r_mulW, x_izipM, x_glst, x_izip, iz_tup, iz_lst, x_lcV, x_par3, x_lz3, x_lstS, x_star, x_izip3, x_sumL, x_tru, x_rg2, x_metP, x_yes, lo_l, so_l, so_t, tr_int, x_clear, ex_plB, pb_causes, pb_clashes, pb_undone, on_book, x_iseq, is_tup, is_lst, x_seq, x_ifS, x_asg, x_par, x_for, x_gname, x_gnil, x_gcons, x_gtup, x_gixP, x_tup, x_lst, x_cons, x_nil, x_dK, x_op2, x_op1, x_opL, x_ret, x_mov, x_var, x_fz, x_c, x_next, x_drop, x_if, x_and, x_or, x_not, x_chain, x_tchain, x_tcmp, x_tval, x_tand, x_tor, x_tnot, x_isi, x_call, x_args0, x_argsV, x_argsL, x_put0, x_putN, x_putS, x_evN, x_evE, x_ev0, x_evC, x_atN, x_atD, x_metN, x_pn, x_ps, x_sl, x_rg1, x_orT, x_lrg2, x_endR, x_endN, x_outT, x_outF, x_out0, x_keyC, x_keyN, y_int, y_bl, y_str, y_non, y_tup, y_lst, y_frl, y_nil, y_cons, ats_nil, ats_cons, onAt_0, onAt_s, on_tape, on_int, on_str, on_bl, on_non, on_tup, on_lst, on_hole, on_frl, true_and, and_true, and_assoc, List.getElem?_cons_zero, List.getElem?_cons_succ, Option.some.injEq, exists_and_left, exists_eq_left', exists_eq_left, exists_eq_right, exists_eq_right', tape_left, tape_spot, tape_cells, set_spot, set_left, r_int, r_mod, r_fdiv, r_lt, r_le, r_gt, r_ge, r_eq, r_ne, r_eqS, r_neS, r_add, r_addL, r_sub, r_mul, r_mulL, r_pow, r_intB, r_abs, r_neg, r_lenL, r_lenT, r_lenF, r_append, r_popAt, r_extend, r_tyL, r_min, fz_fz, fzL_fz, List.all_cons, List.all_nil, Bool.and_true, Bool.true_and, D.tup.injEq, D.int.injEq, D.bl.injEq, D.str.injEq, D.lst.injEq, List.cons.injEq, List.length_cons, List.length_nil, ex_plN, List.set_cons_succ, List.set_cons_zero, decide_eq_true_eq, Nat.reduceAdd, Nat.reduceLT, Nat.reduceLeDiff, Nat.zero_add, Bool.not_true, Bool.not_false, Bool.not_eq_true, Bool.and_false, Bool.false_and, D.hole.injEq, ite_true, ite_false, if_true, if_false, reduceIte, Bool.false_eq_true, Nat.lt_add_one, reduceCtorEq, false_and, and_false, exists_false, exists_const, ne_eq, not_false_eq_true, true_or, or_true, or_false, false_or]
      rw [r_nin]
      simp (maxSteps := 2000000) only [x_callZ, x_enumS, x_minD, x_maxD, r_powW, r_mulW, x_izipM, x_glst, x_izip, iz_tup, iz_lst, x_lcV, x_par3, x_lz3, x_lstS, x_star, x_izip3, x_sumL, x_tru, x_rg2, x_metP, x_yes, lo_l, so_l, so_t, tr_int, x_clear, ex_plB, pb_causes, pb_clashes, pb_undone, on_book, x_iseq, is_tup, is_lst, x_seq, x_ifS, x_asg, x_par, x_for, x_gname, x_gnil, x_gcons, x_gtup, x_gixP, x_tup, x_lst, x_cons, x_nil, x_dK, x_op2, x_op1, x_opL, x_ret, x_mov, x_var, x_fz, x_c, x_next, x_drop, x_if, x_and, x_or, x_not, x_chain, x_tchain, x_tcmp, x_tval, x_tand, x_tor, x_tnot, x_isi, x_call, x_args0, x_argsV, x_argsL, x_put0, x_putN, x_putS, x_evN, x_evE, x_ev0, x_evC, x_atN, x_atD, x_metN, x_pn, x_ps, x_sl, x_rg1, x_orT, x_lrg2, x_endR, x_endN, x_outT, x_outF, x_out0, x_keyC, x_keyN, y_int, y_bl, y_str, y_non, y_tup, y_lst, y_frl, y_nil, y_cons, ats_nil, ats_cons, onAt_0, onAt_s, on_tape, on_int, on_str, on_bl, on_non, on_tup, on_lst, on_hole, on_frl, true_and, and_true, and_assoc, List.getElem?_cons_zero, List.getElem?_cons_succ, Option.some.injEq, exists_and_left, exists_eq_left', exists_eq_left, exists_eq_right, exists_eq_right', tape_left, tape_spot, tape_cells, set_spot, set_left, r_int, r_mod, r_fdiv, r_lt, r_le, r_gt, r_ge, r_eq, r_ne, r_eqS, r_neS, r_add, r_addL, r_sub, r_mul, r_mulL, r_pow, r_intB, r_abs, r_neg, r_lenL, r_lenT, r_lenF, r_append, r_popAt, r_extend, r_tyL, r_min, fz_fz, fzL_fz, List.all_cons, List.all_nil, Bool.and_true, Bool.true_and, D.tup.injEq, D.int.injEq, D.bl.injEq, D.str.injEq, D.lst.injEq, List.cons.injEq, List.length_cons, List.length_nil, ex_plN, List.set_cons_succ, List.set_cons_zero, decide_eq_true_eq, Nat.reduceAdd, Nat.reduceLT, Nat.reduceLeDiff, Nat.zero_add, Bool.not_true, Bool.not_false, Bool.not_eq_true, Bool.and_false, Bool.false_and, D.hole.injEq, ite_true, ite_false, if_true, if_false, reduceIte, Bool.false_eq_true, Nat.lt_add_one, reduceCtorEq, false_and, and_false, exists_false, exists_const, ne_eq, not_false_eq_true, true_or, or_true, or_false, false_or]
      split
      · exact h1 _ _ ⟨_, rfl⟩ rfl
      · exact h2 _ rfl
    · rintro ys s _ hys rfl
      rw [List.nil_append]
      refine r_eqIntsNil hys fun let1 => ?_
      simp only [restore, unset, x_callZ, x_enumS, x_minD, x_maxD, r_powW, r_mulW, x_izipM, x_glst, x_izip, iz_tup, iz_lst, x_lcV, x_par3, x_lz3, x_lstS, x_star, x_izip3, x_sumL, x_tru, x_rg2, x_metP, x_yes, lo_l, so_l, so_t, tr_int, x_clear, ex_plB, pb_causes, pb_clashes, pb_undone, on_book, x_iseq, is_tup, is_lst, x_seq, x_ifS, x_asg, x_par, x_for, x_gname, x_gnil, x_gcons, x_gtup, x_gixP, x_tup, x_lst, x_cons, x_nil, x_dK, x_op2, x_op1, x_opL, x_ret, x_mov, x_var, x_fz, x_c, x_next, x_drop, x_if, x_and, x_or, x_not, x_chain, x_tchain, x_tcmp, x_tval, x_tand, x_tor, x_tnot, x_isi, x_call, x_args0, x_argsV, x_argsL, x_put0, x_putN, x_putS, x_evN, x_evE, x_ev0, x_evC, x_atN, x_atD, x_metN, x_pn, x_ps, x_sl, x_rg1, x_orT, x_lrg2, x_endR, x_endN, x_outT, x_outF, x_out0, x_keyC, x_keyN, y_int, y_bl, y_str, y_non, y_tup, y_lst, y_frl, y_nil, y_cons, ats_nil, ats_cons, onAt_0, onAt_s, on_tape, on_int, on_str, on_bl, on_non, on_tup, on_lst, on_hole, on_frl, true_and, and_true, and_assoc, List.getElem?_cons_zero, List.getElem?_cons_succ, Option.some.injEq, exists_and_left, exists_eq_left', exists_eq_left, exists_eq_right, exists_eq_right', tape_left, tape_spot, tape_cells, set_spot, set_left, r_int, r_mod, r_fdiv, r_lt, r_le, r_gt, r_ge, r_eq, r_ne, r_eqS, r_neS, r_add, r_addL, r_sub, r_mul, r_mulL, r_pow, r_intB, r_abs, r_neg, r_lenL, r_lenT, r_lenF, r_append, r_popAt, r_extend, r_tyL, r_min, fz_fz, fzL_fz, List.all_cons, List.all_nil, Bool.and_true, Bool.true_and, D.tup.injEq, D.int.injEq, D.bl.injEq, D.str.injEq, D.lst.injEq, List.cons.injEq, List.length_cons, List.length_nil, ex_plN, List.set_cons_succ, List.set_cons_zero, decide_eq_true_eq, Nat.reduceAdd, Nat.reduceLT, Nat.reduceLeDiff, Nat.zero_add, Bool.not_true, Bool.not_false, Bool.not_eq_true, Bool.and_false, Bool.false_and, D.hole.injEq, ite_true, ite_false, if_true, if_false, reduceIte, Bool.false_eq_true, Nat.lt_add_one, reduceCtorEq, false_and, and_false, exists_false, exists_const, ne_eq, not_false_eq_true, true_or, or_true, or_false, false_or, List.getD_eq_getElem?_getD, Option.getD_some]
      -- the clashes
      split
      · rw [ix_at e2 fz_il]
        simp (maxSteps := 2000000) only [x_callZ, x_enumS, x_minD, x_maxD, r_powW, r_mulW, x_izipM, x_glst, x_izip, iz_tup, iz_lst, x_lcV, x_par3, x_lz3, x_lstS, x_star, x_izip3, x_sumL, x_tru, x_rg2, x_metP, x_yes, lo_l, so_l, so_t, tr_int, x_clear, ex_plB, pb_causes, pb_clashes, pb_undone, on_book, x_iseq, is_tup, is_lst, x_seq, x_ifS, x_asg, x_par, x_for, x_gname, x_gnil, x_gcons, x_gtup, x_gixP, x_tup, x_lst, x_cons, x_nil, x_dK, x_op2, x_op1, x_opL, x_ret, x_mov, x_var, x_fz, x_c, x_next, x_drop, x_if, x_and, x_or, x_not, x_chain, x_tchain, x_tcmp, x_tval, x_tand, x_tor, x_tnot, x_isi, x_call, x_args0, x_argsV, x_argsL, x_put0, x_putN, x_putS, x_evN, x_evE, x_ev0, x_evC, x_atN, x_atD, x_metN, x_pn, x_ps, x_sl, x_rg1, x_orT, x_lrg2, x_endR, x_endN, x_outT, x_outF, x_out0, x_keyC, x_keyN, y_int, y_bl, y_str, y_non, y_tup, y_lst, y_frl, y_nil, y_cons, ats_nil, ats_cons, onAt_0, onAt_s, on_tape, on_int, on_str, on_bl, on_non, on_tup, on_lst, on_hole, on_frl, true_and, and_true, and_assoc, List.getElem?_cons_zero, List.getElem?_cons_succ, Option.some.injEq, exists_and_left, exists_eq_left', exists_eq_left, exists_eq_right, exists_eq_right', tape_left, tape_spot, tape_cells, set_spot, set_left, r_int, r_mod, r_fdiv, r_lt, r_le, r_gt, r_ge, r_eq, r_ne, r_eqS, r_neS, r_add, r_addL, r_sub, r_mul, r_mulL, r_pow, r_intB, r_abs, r_neg, r_lenL, r_lenT, r_lenF, r_append, r_popAt, r_extend, r_tyL, r_min, fz_fz, fzL_fz, List.all_cons, List.all_nil, Bool.and_true, Bool.true_and, D.tup.injEq, D.int.injEq, D.bl.injEq, D.str.injEq, D.lst.injEq, List.cons.injEq, List.length_cons, List.length_nil, ex_plN, List.set_cons_succ, List.set_cons_zero, decide_eq_true_eq, Nat.reduceAdd, Nat.reduceLT, Nat.reduceLeDiff, Nat.zero_add, Bool.not_true, Bool.not_false, Bool.not_eq_true, Bool.and_false, Bool.false_and, D.hole.injEq, ite_true, ite_false, if_true, if_false, reduceIte, Bool.false_eq_true, Nat.lt_add_one, reduceCtorEq, false_and, and_false, exists_false, exists_const, ne_eq, not_false_eq_true, true_or, or_true, or_false, false_or, fzL_ints, List.length_map]
        refine ⟨sizeOk (by omega), by decide, ?_⟩
        refine lc_any (i := 0) (fun _ s => s = [t', .lst o1 (cs.map ilD), .lst o2 (fs.map ilD), .lst true (zs.map .int), .int q, .int (0 + (i : Nat)), .bl let1, .off]) (fun y => ∃ i : Int, y = .int i) rfl ?_ ?_
        · rintro j x hx s rfl K1 K2 h1 h2
          obtain ⟨k, _, rfl⟩ := List.mem_map.mp (List.mem_of_getElem? hx)
          simp (maxSteps := 2000000) only [x_callZ, x_enumS, x_minD, x_maxD, r_powW, r_mulW, x_izipM, x_glst, x_izip, iz_tup, iz_lst, x_lcV, x_par3, x_lz3, x_lstS, x_star, x_izip3, x_sumL, x_tru, x_rg2, x_metP, x_yes, lo_l, so_l, so_t, tr_int, x_clear, ex_plB, pb_causes, pb_clashes, pb_undone, on_book, x_iseq, is_tup, is_lst, x_seq, x_ifS, x_asg, x_par, x_for, x_gname, x_gnil, x_gcons, x_gtup, x_gixP, x_tup, x_lst, x_cons, x_nil, x_dK, x_op2, x_op1, x_opL, x_ret, x_mov, x_var, x_fz, x_c, x_next, x_drop, x_if, x_and, x_or, x_not, x_chain, x_tchain, x_tcmp, x_tval, x_tand, x_tor, x_tnot, x_isi, x_call, x_args0, x_argsV, x_argsL, x_put0, x_putN, x_putS, x_evN, x_evE, x_ev0, x_evC, x_atN, x_atD, x_metN, x_pn, x_ps, x_sl, x_rg1, x_orT, x_lrg2, x_endR, x_endN, x_outT, x_outF, x_out0, x_keyC, x_keyN, y_int, y_bl, y_str, y_non, y_tup, y_lst, y_frl, y_nil, y_cons, ats_nil, ats_cons, onAt_0, onAt_s, on_tape, on_int, on_str, on_bl, on_non, on_tup, on_lst, on_hole, on_frl, true_and, and_true, and_assoc, List.getElem?_cons_zero, List.getElem?_cons_succ, Option.some.injEq, exists_and_left, exists_eq_left', exists_eq_left, exists_eq_right, exists_eq_right', tape_left, tape_spot, tape_cells, set_spot, set_left, r_int, r_mod, r_fdiv, r_lt, r_le, r_gt, r_ge, r_eq, r_ne, r_eqS, r_neS, r_add, r_addL, r_sub, r_mul, r_mulL, r_pow, r_intB, r_abs, r_neg, r_lenL, r_lenT, r_lenF, r_append, r_popAt, r_extend, r_tyL, r_min, fz_fz, fzL_fz, List.all_cons, List.all_nil, Bool.and_true, Bool.true_and, D.tup.injEq, D.int.injEq, D.bl.injEq, D.str.injEq, D.lst.injEq, List.cons.injEq, List.length_cons, List.length_nil, ex_plN, List.set_cons_succ, List.set_cons_zero, decide_eq_true_eq, Nat.reduceAdd, Nat.reduceLT, Nat.reduceLeDiff, Nat.zero_add, Bool.not_true, Bool.not_false, Bool.not_eq_true, Bool.and_false, Bool.false_and, D.hole.injEq, ite_true, ite_false, if_true, if_false, reduceIte, Bool.false_eq_true, Nat.lt_add_one, reduceCtorEq, false_and, and_false, exists_false, exists_const, ne_eq, not_false_eq_true, true_or, or_true, or_false, false_or]
          rw [r_in]
          simp (maxSteps := 2000000) only [x_callZ, x_enumS, x_minD, x_maxD, r_powW, r_mulW, x_izipM, x_glst, x_izip, iz_tup, iz_lst, x_lcV, x_par3, x_lz3, x_lstS, x_star, x_izip3, x_sumL, x_tru, x_rg2, x_metP, x_yes, lo_l, so_l, so_t, tr_int, x_clear, ex_plB, pb_causes, pb_clashes, pb_undone, on_book, x_iseq, is_tup, is_lst, x_seq, x_ifS, x_asg, x_par, x_for, x_gname, x_gnil, x_gcons, x_gtup, x_gixP, x_tup, x_lst, x_cons, x_nil, x_dK, x_op2, x_op1, x_opL, x_ret, x_mov, x_var, x_fz, x_c, x_next, x_drop, x_if, x_and, x_or, x_not, x_chain, x_tchain, x_tcmp, x_tval, x_tand, x_tor, x_tnot, x_isi, x_call, x_args0, x_argsV, x_argsL, x_put0, x_putN, x_putS, x_evN, x_evE, x_ev0, x_evC, x_atN, x_atD, x_metN, x_pn, x_ps, x_sl, x_rg1, x_orT, x_lrg2, x_endR, x_endN, x_outT, x_outF, x_out0, x_keyC, x_keyN, y_int, y_bl, y_str, y_non, y_tup, y_lst, y_frl, y_nil, y_cons, ats_nil, ats_cons, onAt_0, onAt_s, on_tape, on_int, on_str, on_bl, on_non, on_tup, on_lst, on_hole, on_frl, true_and, and_true, and_assoc, List.getElem?_cons_zero, List.getElem?_cons_succ, Option.some.injEq, exists_and_left, exists_eq_left', exists_eq_left, exists_eq_right, exists_eq_right', tape_left, tape_spot, tape_cells, set_spot, set_left, r_int, r_mod, r_fdiv, r_lt, r_le, r_gt, r_ge, r_eq, r_ne, r_eqS, r_neS, r_add, r_addL, r_sub, r_mul, r_mulL, r_pow, r_intB, r_abs, r_neg, r_lenL, r_lenT, r_lenF, r_append, r_popAt, r_extend, r_tyL, r_min, fz_fz, fzL_fz, List.all_cons, List.all_nil, Bool.and_true, Bool.true_and, D.tup.injEq, D.int.injEq, D.bl.injEq, D.str.injEq, D.lst.injEq, List.cons.injEq, List.length_cons, List.length_nil, ex_plN, List.set_cons_succ, List.set_cons_zero, decide_eq_true_eq, Nat.reduceAdd, Nat.reduceLT, Nat.reduceLeDiff, Nat.zero_add, Bool.not_true, Bool.not_false, Bool.not_eq_true, Bool.and_false, Bool.false_and, D.hole.injEq, ite_true, ite_false, if_true, if_false, reduceIte, Bool.false_eq_true, Nat.lt_add_one, reduceCtorEq, false_and, and_false, exists_false, exists_const, ne_eq, not_false_eq_true, true_or, or_true, or_false, false_or]
          split
          · exact h1 _ _ ⟨_, rfl⟩ rfl
          · exact h2 _ rfl
        · rintro ys s _ hys rfl
          rw [List.nil_append]
          refine r_eqIntsNil hys fun let2 => ?_
          simp only [restore, unset, x_callZ, x_enumS, x_minD, x_maxD, r_powW, r_mulW, x_izipM, x_glst, x_izip, iz_tup, iz_lst, x_lcV, x_par3, x_lz3, x_lstS, x_star, x_izip3, x_sumL, x_tru, x_rg2, x_metP, x_yes, lo_l, so_l, so_t, tr_int, x_clear, ex_plB, pb_causes, pb_clashes, pb_undone, on_book, x_iseq, is_tup, is_lst, x_seq, x_ifS, x_asg, x_par, x_for, x_gname, x_gnil, x_gcons, x_gtup, x_gixP, x_tup, x_lst, x_cons, x_nil, x_dK, x_op2, x_op1, x_opL, x_ret, x_mov, x_var, x_fz, x_c, x_next, x_drop, x_if, x_and, x_or, x_not, x_chain, x_tchain, x_tcmp, x_tval, x_tand, x_tor, x_tnot, x_isi, x_call, x_args0, x_argsV, x_argsL, x_put0, x_putN, x_putS, x_evN, x_evE, x_ev0, x_evC, x_atN, x_atD, x_metN, x_pn, x_ps, x_sl, x_rg1, x_orT, x_lrg2, x_endR, x_endN, x_outT, x_outF, x_out0, x_keyC, x_keyN, y_int, y_bl, y_str, y_non, y_tup, y_lst, y_frl, y_nil, y_cons, ats_nil, ats_cons, onAt_0, onAt_s, on_tape, on_int, on_str, on_bl, on_non, on_tup, on_lst, on_hole, on_frl, true_and, and_true, and_assoc, List.getElem?_cons_zero, List.getElem?_cons_succ, Option.some.injEq, exists_and_left, exists_eq_left', exists_eq_left, exists_eq_right, exists_eq_right', tape_left, tape_spot, tape_cells, set_spot, set_left, r_int, r_mod, r_fdiv, r_lt, r_le, r_gt, r_ge, r_eq, r_ne, r_eqS, r_neS, r_add, r_addL, r_sub, r_mul, r_mulL, r_pow, r_intB, r_abs, r_neg, r_lenL, r_lenT, r_lenF, r_append, r_popAt, r_extend, r_tyL, r_min, fz_fz, fzL_fz, List.all_cons, List.all_nil, Bool.and_true, Bool.true_and, D.tup.injEq, D.int.injEq, D.bl.injEq, D.str.injEq, D.lst.injEq, List.cons.injEq, List.length_cons, List.length_nil, ex_plN, List.set_cons_succ, List.set_cons_zero, decide_eq_true_eq, Nat.reduceAdd, Nat.reduceLT, Nat.reduceLeDiff, Nat.zero_add, Bool.not_true, Bool.not_false, Bool.not_eq_true, Bool.and_false, Bool.false_and, D.hole.injEq, ite_true, ite_false, if_true, if_false, reduceIte, Bool.false_eq_true, Nat.lt_add_one, reduceCtorEq, false_and, and_false, exists_false, exists_const, ne_eq, not_false_eq_true, true_or, or_true, or_false, false_or, List.getD_eq_getElem?_getD, Option.getD_some, ht'.on]
          intro v
          refine to_draw (n := n + cs.length - (i + 1)) (ht'.mono (by omega)) (by omega) (by omega) fun r t2 hr0 hr1 ht2 => ?_
          simp (maxSteps := 2000000) only [x_callZ, x_enumS, x_minD, x_maxD, r_powW, r_mulW, x_izipM, x_glst, x_izip, iz_tup, iz_lst, x_lcV, x_par3, x_lz3, x_lstS, x_star, x_izip3, x_sumL, x_tru, x_rg2, x_metP, x_yes, lo_l, so_l, so_t, tr_int, x_clear, ex_plB, pb_causes, pb_clashes, pb_undone, on_book, x_iseq, is_tup, is_lst, x_seq, x_ifS, x_asg, x_par, x_for, x_gname, x_gnil, x_gcons, x_gtup, x_gixP, x_tup, x_lst, x_cons, x_nil, x_dK, x_op2, x_op1, x_opL, x_ret, x_mov, x_var, x_fz, x_c, x_next, x_drop, x_if, x_and, x_or, x_not, x_chain, x_tchain, x_tcmp, x_tval, x_tand, x_tor, x_tnot, x_isi, x_call, x_args0, x_argsV, x_argsL, x_put0, x_putN, x_putS, x_evN, x_evE, x_ev0, x_evC, x_atN, x_atD, x_metN, x_pn, x_ps, x_sl, x_rg1, x_orT, x_lrg2, x_endR, x_endN, x_outT, x_outF, x_out0, x_keyC, x_keyN, y_int, y_bl, y_str, y_non, y_tup, y_lst, y_frl, y_nil, y_cons, ats_nil, ats_cons, onAt_0, onAt_s, on_tape, on_int, on_str, on_bl, on_non, on_tup, on_lst, on_hole, on_frl, true_and, and_true, and_assoc, List.getElem?_cons_zero, List.getElem?_cons_succ, Option.some.injEq, exists_and_left, exists_eq_left', exists_eq_left, exists_eq_right, exists_eq_right', tape_left, tape_spot, tape_cells, set_spot, set_left, r_int, r_mod, r_fdiv, r_lt, r_le, r_gt, r_ge, r_eq, r_ne, r_eqS, r_neS, r_add, r_addL, r_sub, r_mul, r_mulL, r_pow, r_intB, r_abs, r_neg, r_lenL, r_lenT, r_lenF, r_append, r_popAt, r_extend, r_tyL, r_min, fz_fz, fzL_fz, List.all_cons, List.all_nil, Bool.and_true, Bool.true_and, D.tup.injEq, D.int.injEq, D.bl.injEq, D.str.injEq, D.lst.injEq, List.cons.injEq, List.length_cons, List.length_nil, ex_plN, List.set_cons_succ, List.set_cons_zero, decide_eq_true_eq, Nat.reduceAdd, Nat.reduceLT, Nat.reduceLeDiff, Nat.zero_add, Bool.not_true, Bool.not_false, Bool.not_eq_true, Bool.and_false, Bool.false_and, D.hole.injEq, ite_true, ite_false, if_true, if_false, reduceIte, Bool.false_eq_true, Nat.lt_add_one, reduceCtorEq, false_and, and_false, exists_false, exists_const, ne_eq, not_false_eq_true, true_or, or_true, or_false, false_or, ht2.on]
          have nx : ∀ lt : Bool, E'.nx [t2, .lst o1 (cs.map ilD), .lst o2 (fs.map ilD), .lst true (zs.map .int), .int q, .int (0 + (i : Nat)), .bl lt, c] := fun lt => hnx _ ⟨t2, zs, _, _, _, rfl, ht2, by omega, hzs⟩
          split
          · split
            · refine ⟨by rw [List.length_map]; exact Nat.lt_of_le_of_lt hzl (by rw [sizeLine_eq]; omega), hnx _ ⟨t2, zs ++ [0 + ((i : Nat) : Int)], _, _, _, by rw [List.map_append]; rfl, ht2, by simp; omega, fun z hz => ?_⟩⟩
              rcases List.mem_append.mp hz with hz | hz
              · exact hzs z hz
              · simp only [List.mem_cons, List.not_mem_nil, or_false] at hz
                omega
            · exact nx _
          · exact nx _
      · simp (maxSteps := 2000000) only [x_callZ, x_enumS, x_minD, x_maxD, r_powW, r_mulW, x_izipM, x_glst, x_izip, iz_tup, iz_lst, x_lcV, x_par3, x_lz3, x_lstS, x_star, x_izip3, x_sumL, x_tru, x_rg2, x_metP, x_yes, lo_l, so_l, so_t, tr_int, x_clear, ex_plB, pb_causes, pb_clashes, pb_undone, on_book, x_iseq, is_tup, is_lst, x_seq, x_ifS, x_asg, x_par, x_for, x_gname, x_gnil, x_gcons, x_gtup, x_gixP, x_tup, x_lst, x_cons, x_nil, x_dK, x_op2, x_op1, x_opL, x_ret, x_mov, x_var, x_fz, x_c, x_next, x_drop, x_if, x_and, x_or, x_not, x_chain, x_tchain, x_tcmp, x_tval, x_tand, x_tor, x_tnot, x_isi, x_call, x_args0, x_argsV, x_argsL, x_put0, x_putN, x_putS, x_evN, x_evE, x_ev0, x_evC, x_atN, x_atD, x_metN, x_pn, x_ps, x_sl, x_rg1, x_orT, x_lrg2, x_endR, x_endN, x_outT, x_outF, x_out0, x_keyC, x_keyN, y_int, y_bl, y_str, y_non, y_tup, y_lst, y_frl, y_nil, y_cons, ats_nil, ats_cons, onAt_0, onAt_s, on_tape, on_int, on_str, on_bl, on_non, on_tup, on_lst, on_hole, on_frl, true_and, and_true, and_assoc, List.getElem?_cons_zero, List.getElem?_cons_succ, Option.some.injEq, exists_and_left, exists_eq_left', exists_eq_left, exists_eq_right, exists_eq_right', tape_left, tape_spot, tape_cells, set_spot, set_left, r_int, r_mod, r_fdiv, r_lt, r_le, r_gt, r_ge, r_eq, r_ne, r_eqS, r_neS, r_add, r_addL, r_sub, r_mul, r_mulL, r_pow, r_intB, r_abs, r_neg, r_lenL, r_lenT, r_lenF, r_append, r_popAt, r_extend, r_tyL, r_min, fz_fz, fzL_fz, List.all_cons, List.all_nil, Bool.and_true, Bool.true_and, D.tup.injEq, D.int.injEq, D.bl.injEq, D.str.injEq, D.lst.injEq, List.cons.injEq, List.length_cons, List.length_nil, ex_plN, List.set_cons_succ, List.set_cons_zero, decide_eq_true_eq, Nat.reduceAdd, Nat.reduceLT, Nat.reduceLeDiff, Nat.zero_add, Bool.not_true, Bool.not_false, Bool.not_eq_true, Bool.and_false, Bool.false_and, D.hole.injEq, ite_true, ite_false, if_true, if_false, reduceIte, Bool.false_eq_true, Nat.lt_add_one, reduceCtorEq, false_and, and_false, exists_false, exists_const, ne_eq, not_false_eq_true, true_or, or_true, or_false, false_or, ht'.on]
        intro v
        refine to_draw (n := n + cs.length - (i + 1)) (ht'.mono (by omega)) (by omega) (by omega) fun r t2 hr0 hr1 ht2 => ?_
        simp (maxSteps := 2000000) only [x_callZ, x_enumS, x_minD, x_maxD, r_powW, r_mulW, x_izipM, x_glst, x_izip, iz_tup, iz_lst, x_lcV, x_par3, x_lz3, x_lstS, x_star, x_izip3, x_sumL, x_tru, x_rg2, x_metP, x_yes, lo_l, so_l, so_t, tr_int, x_clear, ex_plB, pb_causes, pb_clashes, pb_undone, on_book, x_iseq, is_tup, is_lst, x_seq, x_ifS, x_asg, x_par, x_for, x_gname, x_gnil, x_gcons, x_gtup, x_gixP, x_tup, x_lst, x_cons, x_nil, x_dK, x_op2, x_op1, x_opL, x_ret, x_mov, x_var, x_fz, x_c, x_next, x_drop, x_if, x_and, x_or, x_not, x_chain, x_tchain, x_tcmp, x_tval, x_tand, x_tor, x_tnot, x_isi, x_call, x_args0, x_argsV, x_argsL, x_put0, x_putN, x_putS, x_evN, x_evE, x_ev0, x_evC, x_atN, x_atD, x_metN, x_pn, x_ps, x_sl, x_rg1, x_orT, x_lrg2, x_endR, x_endN, x_outT, x_outF, x_out0, x_keyC, x_keyN, y_int, y_bl, y_str, y_non, y_tup, y_lst, y_frl, y_nil, y_cons, ats_nil, ats_cons, onAt_0, onAt_s, on_tape, on_int, on_str, on_bl, on_non, on_tup, on_lst, on_hole, on_frl, true_and, and_true, and_assoc, List.getElem?_cons_zero, List.getElem?_cons_succ, Option.some.injEq, exists_and_left, exists_eq_left', exists_eq_left, exists_eq_right, exists_eq_right', tape_left, tape_spot, tape_cells, set_spot, set_left, r_int, r_mod, r_fdiv, r_lt, r_le, r_gt, r_ge, r_eq, r_ne, r_eqS, r_neS, r_add, r_addL, r_sub, r_mul, r_mulL, r_pow, r_intB, r_abs, r_neg, r_lenL, r_lenT, r_lenF, r_append, r_popAt, r_extend, r_tyL, r_min, fz_fz, fzL_fz, List.all_cons, List.all_nil, Bool.and_true, Bool.true_and, D.tup.injEq, D.int.injEq, D.bl.injEq, D.str.injEq, D.lst.injEq, List.cons.injEq, List.length_cons, List.length_nil, ex_plN, List.set_cons_succ, List.set_cons_zero, decide_eq_true_eq, Nat.reduceAdd, Nat.reduceLT, Nat.reduceLeDiff, Nat.zero_add, Bool.not_true, Bool.not_false, Bool.not_eq_true, Bool.and_false, Bool.false_and, D.hole.injEq, ite_true, ite_false, if_true, if_false, reduceIte, Bool.false_eq_true, Nat.lt_add_one, reduceCtorEq, false_and, and_false, exists_false, exists_const, ne_eq, not_false_eq_true, true_or, or_true, or_false, false_or, ht2.on]
        have nx : ∀ lt : Bool, E'.nx [t2, .lst o1 (cs.map ilD), .lst o2 (fs.map ilD), .lst true (zs.map .int), .int q, .int (0 + (i : Nat)), .bl lt, c] := fun lt => hnx _ ⟨t2, zs, _, _, _, rfl, ht2, by omega, hzs⟩
        split <;> exact nx _
  · rintro s ⟨t', zs, a, b, c, rfl, ht', hzl, hzs⟩
    rw [rangeD_len] at ht' hzl
    simp (maxSteps := 2000000) only [x_callZ, x_enumS, x_minD, x_maxD, r_powW, r_mulW, x_izipM, x_glst, x_izip, iz_tup, iz_lst, x_lcV, x_par3, x_lz3, x_lstS, x_star, x_izip3, x_sumL, x_tru, x_rg2, x_metP, x_yes, lo_l, so_l, so_t, tr_int, x_clear, ex_plB, pb_causes, pb_clashes, pb_undone, on_book, x_iseq, is_tup, is_lst, x_seq, x_ifS, x_asg, x_par, x_for, x_gname, x_gnil, x_gcons, x_gtup, x_gixP, x_tup, x_lst, x_cons, x_nil, x_dK, x_op2, x_op1, x_opL, x_ret, x_mov, x_var, x_fz, x_c, x_next, x_drop, x_if, x_and, x_or, x_not, x_chain, x_tchain, x_tcmp, x_tval, x_tand, x_tor, x_tnot, x_isi, x_call, x_args0, x_argsV, x_argsL, x_put0, x_putN, x_putS, x_evN, x_evE, x_ev0, x_evC, x_atN, x_atD, x_metN, x_pn, x_ps, x_sl, x_rg1, x_orT, x_lrg2, x_endR, x_endN, x_outT, x_outF, x_out0, x_keyC, x_keyN, y_int, y_bl, y_str, y_non, y_tup, y_lst, y_frl, y_nil, y_cons, ats_nil, ats_cons, onAt_0, onAt_s, on_tape, on_int, on_str, on_bl, on_non, on_tup, on_lst, on_hole, on_frl, true_and, and_true, and_assoc, List.getElem?_cons_zero, List.getElem?_cons_succ, Option.some.injEq, exists_and_left, exists_eq_left', exists_eq_left, exists_eq_right, exists_eq_right', tape_left, tape_spot, tape_cells, set_spot, set_left, r_int, r_mod, r_fdiv, r_lt, r_le, r_gt, r_ge, r_eq, r_ne, r_eqS, r_neS, r_add, r_addL, r_sub, r_mul, r_mulL, r_pow, r_intB, r_abs, r_neg, r_lenL, r_lenT, r_lenF, r_append, r_popAt, r_extend, r_tyL, r_min, fz_fz, fzL_fz, List.all_cons, List.all_nil, Bool.and_true, Bool.true_and, D.tup.injEq, D.int.injEq, D.bl.injEq, D.str.injEq, D.lst.injEq, List.cons.injEq, List.length_cons, List.length_nil, ex_plN, List.set_cons_succ, List.set_cons_zero, decide_eq_true_eq, Nat.reduceAdd, Nat.reduceLT, Nat.reduceLeDiff, Nat.zero_add, Bool.not_true, Bool.not_false, Bool.not_eq_true, Bool.and_false, Bool.false_and, D.hole.injEq, ite_true, ite_false, if_true, if_false, reduceIte, Bool.false_eq_true, Nat.lt_add_one, reduceCtorEq, false_and, and_false, exists_false, exists_const, ne_eq, not_false_eq_true, true_or, or_true, or_false, false_or]
    exact hR zs t' (by omega) hzs (ht'.mono (by omega))
end Q

namespace Q
open PySem PySem.Spec PyProof.Rows L2 M Z3
theorem wp_book : ∀ ds R, ds.length = 2 → S__law_book ds R → w__law_book (endsB [true, false] R) (startD 2 10 ds) := by
  rintro ds R hl ⟨t, m, n, rfl, ht, hm0, hm1, hR⟩
  have st : startD 2 10 [t, .int m] = [t, .int m, .off, .off, .off, .off, .off, .off, .off, .off] := rfl
  rw [st]
  unfold w__law_book
  simp (maxSteps := 2000000) only [x_callZ, x_enumS, x_minD, x_maxD, r_powW, r_mulW, x_izipM, x_glst, x_izip, iz_tup, iz_lst, x_lcV, x_par3, x_lz3, x_lstS, x_star, x_izip3, x_sumL, x_tru, x_rg2, x_metP, x_yes, lo_l, so_l, so_t, tr_int, x_clear, ex_plB, pb_causes, pb_clashes, pb_undone, on_book, x_iseq, is_tup, is_lst, x_seq, x_ifS, x_asg, x_par, x_for, x_gname, x_gnil, x_gcons, x_gtup, x_gixP, x_tup, x_lst, x_cons, x_nil, x_dK, x_op2, x_op1, x_opL, x_ret, x_mov, x_var, x_fz, x_c, x_next, x_drop, x_if, x_and, x_or, x_not, x_chain, x_tchain, x_tcmp, x_tval, x_tand, x_tor, x_tnot, x_isi, x_call, x_args0, x_argsV, x_argsL, x_put0, x_putN, x_putS, x_evN, x_evE, x_ev0, x_evC, x_atN, x_atD, x_metN, x_pn, x_ps, x_sl, x_rg1, x_orT, x_lrg2, x_endR, x_endN, x_outT, x_outF, x_out0, x_keyC, x_keyN, y_int, y_bl, y_str, y_non, y_tup, y_lst, y_frl, y_nil, y_cons, ats_nil, ats_cons, onAt_0, onAt_s, on_tape, on_int, on_str, on_bl, on_non, on_tup, on_lst, on_hole, on_frl, true_and, and_true, and_assoc, List.getElem?_cons_zero, List.getElem?_cons_succ, Option.some.injEq, exists_and_left, exists_eq_left', exists_eq_left, exists_eq_right, exists_eq_right', tape_left, tape_spot, tape_cells, set_spot, set_left, r_int, r_mod, r_fdiv, r_lt, r_le, r_gt, r_ge, r_eq, r_ne, r_eqS, r_neS, r_add, r_addL, r_sub, r_mul, r_mulL, r_pow, r_intB, r_abs, r_neg, r_lenL, r_lenT, r_lenF, r_append, r_popAt, r_extend, r_tyL, r_min, fz_fz, fzL_fz, List.all_cons, List.all_nil, Bool.and_true, Bool.true_and, D.tup.injEq, D.int.injEq, D.bl.injEq, D.str.injEq, D.lst.injEq, List.cons.injEq, List.length_cons, List.length_nil, ex_plN, List.set_cons_succ, List.set_cons_zero, decide_eq_true_eq, Nat.reduceAdd, Nat.reduceLT, Nat.reduceLeDiff, Nat.zero_add, Bool.not_true, Bool.not_false, Bool.not_eq_true, Bool.and_false, Bool.false_and, D.hole.injEq, ite_true, ite_false, if_true, if_false, reduceIte, Bool.false_eq_true, Nat.lt_add_one, reduceCtorEq, false_and, and_false, exists_false, exists_const, ne_eq, not_false_eq_true, true_or, or_true, or_false, false_or, ht.on, List.zip_cons_cons, List.zip_nil_right, List.zip_nil_left, book_is, on_book]
  refine ⟨⟨by omega, by omega, by omega, by omega, by omega⟩, ?_⟩
  intro v
  refine to_pickI (ns := [2, 3, 5]) (n := n + 19999) (ht.mono (by omega)) (by simp) (by simp) fun q4 t1 hq4 ht1 => ?_
  simp (maxSteps := 2000000) only [x_callZ, x_enumS, x_minD, x_maxD, r_powW, r_mulW, x_izipM, x_glst, x_izip, iz_tup, iz_lst, x_lcV, x_par3, x_lz3, x_lstS, x_star, x_izip3, x_sumL, x_tru, x_rg2, x_metP, x_yes, lo_l, so_l, so_t, tr_int, x_clear, ex_plB, pb_causes, pb_clashes, pb_undone, on_book, x_iseq, is_tup, is_lst, x_seq, x_ifS, x_asg, x_par, x_for, x_gname, x_gnil, x_gcons, x_gtup, x_gixP, x_tup, x_lst, x_cons, x_nil, x_dK, x_op2, x_op1, x_opL, x_ret, x_mov, x_var, x_fz, x_c, x_next, x_drop, x_if, x_and, x_or, x_not, x_chain, x_tchain, x_tcmp, x_tval, x_tand, x_tor, x_tnot, x_isi, x_call, x_args0, x_argsV, x_argsL, x_put0, x_putN, x_putS, x_evN, x_evE, x_ev0, x_evC, x_atN, x_atD, x_metN, x_pn, x_ps, x_sl, x_rg1, x_orT, x_lrg2, x_endR, x_endN, x_outT, x_outF, x_out0, x_keyC, x_keyN, y_int, y_bl, y_str, y_non, y_tup, y_lst, y_frl, y_nil, y_cons, ats_nil, ats_cons, onAt_0, onAt_s, on_tape, on_int, on_str, on_bl, on_non, on_tup, on_lst, on_hole, on_frl, true_and, and_true, and_assoc, List.getElem?_cons_zero, List.getElem?_cons_succ, Option.some.injEq, exists_and_left, exists_eq_left', exists_eq_left, exists_eq_right, exists_eq_right', tape_left, tape_spot, tape_cells, set_spot, set_left, r_int, r_mod, r_fdiv, r_lt, r_le, r_gt, r_ge, r_eq, r_ne, r_eqS, r_neS, r_add, r_addL, r_sub, r_mul, r_mulL, r_pow, r_intB, r_abs, r_neg, r_lenL, r_lenT, r_lenF, r_append, r_popAt, r_extend, r_tyL, r_min, fz_fz, fzL_fz, List.all_cons, List.all_nil, Bool.and_true, Bool.true_and, D.tup.injEq, D.int.injEq, D.bl.injEq, D.str.injEq, D.lst.injEq, List.cons.injEq, List.length_cons, List.length_nil, ex_plN, List.set_cons_succ, List.set_cons_zero, decide_eq_true_eq, Nat.reduceAdd, Nat.reduceLT, Nat.reduceLeDiff, Nat.zero_add, Bool.not_true, Bool.not_false, Bool.not_eq_true, Bool.and_false, Bool.false_and, D.hole.injEq, ite_true, ite_false, if_true, if_false, reduceIte, Bool.false_eq_true, Nat.lt_add_one, reduceCtorEq, false_and, and_false, exists_false, exists_const, ne_eq, not_false_eq_true, true_or, or_true, or_false, false_or, ht1.on, on_book]
  intro v
  refine to_pickI (ns := [2, 3, 6, 99]) (n := n + 19998) (ht1.mono (by omega)) (by simp) (by simp) fun q5 t2 hq5 ht2 => ?_
  simp only [List.mem_cons, List.not_mem_nil, or_false] at hq4 hq5
  simp (maxSteps := 2000000) only [x_callZ, x_enumS, x_minD, x_maxD, r_powW, r_mulW, x_izipM, x_glst, x_izip, iz_tup, iz_lst, x_lcV, x_par3, x_lz3, x_lstS, x_star, x_izip3, x_sumL, x_tru, x_rg2, x_metP, x_yes, lo_l, so_l, so_t, tr_int, x_clear, ex_plB, pb_causes, pb_clashes, pb_undone, on_book, x_iseq, is_tup, is_lst, x_seq, x_ifS, x_asg, x_par, x_for, x_gname, x_gnil, x_gcons, x_gtup, x_gixP, x_tup, x_lst, x_cons, x_nil, x_dK, x_op2, x_op1, x_opL, x_ret, x_mov, x_var, x_fz, x_c, x_next, x_drop, x_if, x_and, x_or, x_not, x_chain, x_tchain, x_tcmp, x_tval, x_tand, x_tor, x_tnot, x_isi, x_call, x_args0, x_argsV, x_argsL, x_put0, x_putN, x_putS, x_evN, x_evE, x_ev0, x_evC, x_atN, x_atD, x_metN, x_pn, x_ps, x_sl, x_rg1, x_orT, x_lrg2, x_endR, x_endN, x_outT, x_outF, x_out0, x_keyC, x_keyN, y_int, y_bl, y_str, y_non, y_tup, y_lst, y_frl, y_nil, y_cons, ats_nil, ats_cons, onAt_0, onAt_s, on_tape, on_int, on_str, on_bl, on_non, on_tup, on_lst, on_hole, on_frl, true_and, and_true, and_assoc, List.getElem?_cons_zero, List.getElem?_cons_succ, Option.some.injEq, exists_and_left, exists_eq_left', exists_eq_left, exists_eq_right, exists_eq_right', tape_left, tape_spot, tape_cells, set_spot, set_left, r_int, r_mod, r_fdiv, r_lt, r_le, r_gt, r_ge, r_eq, r_ne, r_eqS, r_neS, r_add, r_addL, r_sub, r_mul, r_mulL, r_pow, r_intB, r_abs, r_neg, r_lenL, r_lenT, r_lenF, r_append, r_popAt, r_extend, r_tyL, r_min, fz_fz, fzL_fz, List.all_cons, List.all_nil, Bool.and_true, Bool.true_and, D.tup.injEq, D.int.injEq, D.bl.injEq, D.str.injEq, D.lst.injEq, List.cons.injEq, List.length_cons, List.length_nil, ex_plN, List.set_cons_succ, List.set_cons_zero, decide_eq_true_eq, Nat.reduceAdd, Nat.reduceLT, Nat.reduceLeDiff, Nat.zero_add, Bool.not_true, Bool.not_false, Bool.not_eq_true, Bool.and_false, Bool.false_and, D.hole.injEq, ite_true, ite_false, if_true, if_false, reduceIte, Bool.false_eq_true, Nat.lt_add_one, reduceCtorEq, false_and, and_false, exists_false, exists_const, ne_eq, not_false_eq_true, true_or, or_true, or_false, false_or, ht2.on, on_book, range_upto hm0]
  refine ⟨by omega, by omega, ?_⟩
  refine for_inv (fun i s => ∃ t' cs fs us ls a b c d, s = [t', .int m, bookX true (.lst true (cs.map ilD)) (.lst true (fs.map ilD)) (.lst true (us.map .int)), .lst true (ls.map .int), .int q4, .int q5, a, b, c, d] ∧ Tape (n + 300 * (60 - i)) t' ∧ cs.length = i ∧ fs.length = i ∧ (∀ c ∈ cs, c.length ≤ 60) ∧ (∀ c ∈ fs, c.length ≤ 60) ∧ (us.map absI ++ ls).Perm (upto m.toNat) ∧ us.length = i) ⟨t2, [], [], [], upto m.toNat, _, _, _, _, rfl, ht2.mono (by omega), rfl, rfl, by simp, by simp, List.Perm.refl _, rfl⟩ ?_ ?_
  · rintro i x hx s ⟨t', cs, fs, us, ls, a, b, c, d, rfl, ht', hcl, hfl, hc, hf, hp, hul⟩ E' hnx - - -
    obtain ⟨hi, rfl⟩ := rangeD_at hx
    have hi60 : i < 60 := by omega
    have hsub : n + 300 * (60 - i) = n + 300 * (60 - (i + 1)) + 300 := by omega
    rw [hsub] at ht'
    simp (maxSteps := 2000000) only [x_callZ, x_enumS, x_minD, x_maxD, r_powW, r_mulW, x_izipM, x_glst, x_izip, iz_tup, iz_lst, x_lcV, x_par3, x_lz3, x_lstS, x_star, x_izip3, x_sumL, x_tru, x_rg2, x_metP, x_yes, lo_l, so_l, so_t, tr_int, x_clear, ex_plB, pb_causes, pb_clashes, pb_undone, on_book, x_iseq, is_tup, is_lst, x_seq, x_ifS, x_asg, x_par, x_for, x_gname, x_gnil, x_gcons, x_gtup, x_gixP, x_tup, x_lst, x_cons, x_nil, x_dK, x_op2, x_op1, x_opL, x_ret, x_mov, x_var, x_fz, x_c, x_next, x_drop, x_if, x_and, x_or, x_not, x_chain, x_tchain, x_tcmp, x_tval, x_tand, x_tor, x_tnot, x_isi, x_call, x_args0, x_argsV, x_argsL, x_put0, x_putN, x_putS, x_evN, x_evE, x_ev0, x_evC, x_atN, x_atD, x_metN, x_pn, x_ps, x_sl, x_rg1, x_orT, x_lrg2, x_endR, x_endN, x_outT, x_outF, x_out0, x_keyC, x_keyN, y_int, y_bl, y_str, y_non, y_tup, y_lst, y_frl, y_nil, y_cons, ats_nil, ats_cons, onAt_0, onAt_s, on_tape, on_int, on_str, on_bl, on_non, on_tup, on_lst, on_hole, on_frl, true_and, and_true, and_assoc, List.getElem?_cons_zero, List.getElem?_cons_succ, Option.some.injEq, exists_and_left, exists_eq_left', exists_eq_left, exists_eq_right, exists_eq_right', tape_left, tape_spot, tape_cells, set_spot, set_left, r_int, r_mod, r_fdiv, r_lt, r_le, r_gt, r_ge, r_eq, r_ne, r_eqS, r_neS, r_add, r_addL, r_sub, r_mul, r_mulL, r_pow, r_intB, r_abs, r_neg, r_lenL, r_lenT, r_lenF, r_append, r_popAt, r_extend, r_tyL, r_min, fz_fz, fzL_fz, List.all_cons, List.all_nil, Bool.and_true, Bool.true_and, D.tup.injEq, D.int.injEq, D.bl.injEq, D.str.injEq, D.lst.injEq, List.cons.injEq, List.length_cons, List.length_nil, ex_plN, List.set_cons_succ, List.set_cons_zero, decide_eq_true_eq, Nat.reduceAdd, Nat.reduceLT, Nat.reduceLeDiff, Nat.zero_add, Bool.not_true, Bool.not_false, Bool.not_eq_true, Bool.and_false, Bool.false_and, D.hole.injEq, ite_true, ite_false, if_true, if_false, reduceIte, Bool.false_eq_true, Nat.lt_add_one, reduceCtorEq, false_and, and_false, exists_false, exists_const, ne_eq, not_false_eq_true, true_or, or_true, or_false, false_or, ht'.on, on_book]
    intro v1 v2 v3
    refine ⟨t', true, cs, true, fs, n + 300 * (60 - (i + 1)) + 200, rfl, ht'.mono (by omega), by omega, by omega, hc, hf, fun zs t3 hzl hzs ht3 => ?_⟩
    simp (maxSteps := 2000000) only [x_callZ, x_enumS, x_minD, x_maxD, r_powW, r_mulW, x_izipM, x_glst, x_izip, iz_tup, iz_lst, x_lcV, x_par3, x_lz3, x_lstS, x_star, x_izip3, x_sumL, x_tru, x_rg2, x_metP, x_yes, lo_l, so_l, so_t, tr_int, x_clear, ex_plB, pb_causes, pb_clashes, pb_undone, on_book, x_iseq, is_tup, is_lst, x_seq, x_ifS, x_asg, x_par, x_for, x_gname, x_gnil, x_gcons, x_gtup, x_gixP, x_tup, x_lst, x_cons, x_nil, x_dK, x_op2, x_op1, x_opL, x_ret, x_mov, x_var, x_fz, x_c, x_next, x_drop, x_if, x_and, x_or, x_not, x_chain, x_tchain, x_tcmp, x_tval, x_tand, x_tor, x_tnot, x_isi, x_call, x_args0, x_argsV, x_argsL, x_put0, x_putN, x_putS, x_evN, x_evE, x_ev0, x_evC, x_atN, x_atD, x_metN, x_pn, x_ps, x_sl, x_rg1, x_orT, x_lrg2, x_endR, x_endN, x_outT, x_outF, x_out0, x_keyC, x_keyN, y_int, y_bl, y_str, y_non, y_tup, y_lst, y_frl, y_nil, y_cons, ats_nil, ats_cons, onAt_0, onAt_s, on_tape, on_int, on_str, on_bl, on_non, on_tup, on_lst, on_hole, on_frl, true_and, and_true, and_assoc, List.getElem?_cons_zero, List.getElem?_cons_succ, Option.some.injEq, exists_and_left, exists_eq_left', exists_eq_left, exists_eq_right, exists_eq_right', tape_left, tape_spot, tape_cells, set_spot, set_left, r_int, r_mod, r_fdiv, r_lt, r_le, r_gt, r_ge, r_eq, r_ne, r_eqS, r_neS, r_add, r_addL, r_sub, r_mul, r_mulL, r_pow, r_intB, r_abs, r_neg, r_lenL, r_lenT, r_lenF, r_append, r_popAt, r_extend, r_tyL, r_min, fz_fz, fzL_fz, List.all_cons, List.all_nil, Bool.and_true, Bool.true_and, D.tup.injEq, D.int.injEq, D.bl.injEq, D.str.injEq, D.lst.injEq, List.cons.injEq, List.length_cons, List.length_nil, ex_plN, List.set_cons_succ, List.set_cons_zero, decide_eq_true_eq, Nat.reduceAdd, Nat.reduceLT, Nat.reduceLeDiff, Nat.zero_add, Bool.not_true, Bool.not_false, Bool.not_eq_true, Bool.and_false, Bool.false_and, D.hole.injEq, ite_true, ite_false, if_true, if_false, reduceIte, Bool.false_eq_true, Nat.lt_add_one, reduceCtorEq, false_and, and_false, exists_false, exists_const, ne_eq, not_false_eq_true, true_or, or_true, or_false, false_or, ht3.on, on_book, fzL_ints, List.length_map]
    have hnb : ∀ zs : List Int, zs.length ≤ 60 → (zs.map D.int).length ≤ sizeLine := fun zs h => sizeOk (by rw [List.length_map]; omega)
    generalize hB : D.lst true (us.map .int) = uD
    generalize hF : D.lst true (fs.map ilD) = fD
    refine ⟨sizeOk (by omega), by decide, ?_⟩
    -- some of the done ones
    refine lc_any (i := 0) (fun j s => ∃ t4, s = [t4, .int m, bookX true (.lst true (cs.map ilD)) fD uD, .lst true (ls.map .int), .int q4, .int q5, .int (0 + (i : Nat)), .lst false (zs.map .int), c, .off] ∧ Tape (n + 300 * (60 - (i + 1)) + 200 - j) t4) (fun y => ∃ z : Int, y = .int z ∧ (0 ≤ z ∧ z < (cs.length : Nat))) ⟨t3, rfl, ht3⟩ ?_ ?_
    · rintro j x hx s ⟨t4, rfl, ht4⟩ K1 K2 h1 h2
      have hj := (List.getElem?_eq_some_iff.mp hx).1
      rw [List.length_map] at hj
      obtain ⟨z, hz, rfl⟩ := List.mem_map.mp (List.mem_of_getElem? hx)
      rw [Nat.zero_add] at ht4 h1 h2
      simp (maxSteps := 2000000) only [x_callZ, x_enumS, x_minD, x_maxD, r_powW, r_mulW, x_izipM, x_glst, x_izip, iz_tup, iz_lst, x_lcV, x_par3, x_lz3, x_lstS, x_star, x_izip3, x_sumL, x_tru, x_rg2, x_metP, x_yes, lo_l, so_l, so_t, tr_int, x_clear, ex_plB, pb_causes, pb_clashes, pb_undone, on_book, x_iseq, is_tup, is_lst, x_seq, x_ifS, x_asg, x_par, x_for, x_gname, x_gnil, x_gcons, x_gtup, x_gixP, x_tup, x_lst, x_cons, x_nil, x_dK, x_op2, x_op1, x_opL, x_ret, x_mov, x_var, x_fz, x_c, x_next, x_drop, x_if, x_and, x_or, x_not, x_chain, x_tchain, x_tcmp, x_tval, x_tand, x_tor, x_tnot, x_isi, x_call, x_args0, x_argsV, x_argsL, x_put0, x_putN, x_putS, x_evN, x_evE, x_ev0, x_evC, x_atN, x_atD, x_metN, x_pn, x_ps, x_sl, x_rg1, x_orT, x_lrg2, x_endR, x_endN, x_outT, x_outF, x_out0, x_keyC, x_keyN, y_int, y_bl, y_str, y_non, y_tup, y_lst, y_frl, y_nil, y_cons, ats_nil, ats_cons, onAt_0, onAt_s, on_tape, on_int, on_str, on_bl, on_non, on_tup, on_lst, on_hole, on_frl, true_and, and_true, and_assoc, List.getElem?_cons_zero, List.getElem?_cons_succ, Option.some.injEq, exists_and_left, exists_eq_left', exists_eq_left, exists_eq_right, exists_eq_right', tape_left, tape_spot, tape_cells, set_spot, set_left, r_int, r_mod, r_fdiv, r_lt, r_le, r_gt, r_ge, r_eq, r_ne, r_eqS, r_neS, r_add, r_addL, r_sub, r_mul, r_mulL, r_pow, r_intB, r_abs, r_neg, r_lenL, r_lenT, r_lenF, r_append, r_popAt, r_extend, r_tyL, r_min, fz_fz, fzL_fz, List.all_cons, List.all_nil, Bool.and_true, Bool.true_and, D.tup.injEq, D.int.injEq, D.bl.injEq, D.str.injEq, D.lst.injEq, List.cons.injEq, List.length_cons, List.length_nil, ex_plN, List.set_cons_succ, List.set_cons_zero, decide_eq_true_eq, Nat.reduceAdd, Nat.reduceLT, Nat.reduceLeDiff, Nat.zero_add, Bool.not_true, Bool.not_false, Bool.not_eq_true, Bool.and_false, Bool.false_and, D.hole.injEq, ite_true, ite_false, if_true, if_false, reduceIte, Bool.false_eq_true, Nat.lt_add_one, reduceCtorEq, false_and, and_false, exists_false, exists_const, ne_eq, not_false_eq_true, true_or, or_true, or_false, false_or, ht4.on, on_book]
      intro v
      refine to_draw (n := n + 300 * (60 - (i + 1)) + 200 - (j + 1)) (ht4.mono (by omega)) (by omega) (by omega) fun r t5 hr0 hr1 ht5 => ?_
      simp (maxSteps := 2000000) only [x_callZ, x_enumS, x_minD, x_maxD, r_powW, r_mulW, x_izipM, x_glst, x_izip, iz_tup, iz_lst, x_lcV, x_par3, x_lz3, x_lstS, x_star, x_izip3, x_sumL, x_tru, x_rg2, x_metP, x_yes, lo_l, so_l, so_t, tr_int, x_clear, ex_plB, pb_causes, pb_clashes, pb_undone, on_book, x_iseq, is_tup, is_lst, x_seq, x_ifS, x_asg, x_par, x_for, x_gname, x_gnil, x_gcons, x_gtup, x_gixP, x_tup, x_lst, x_cons, x_nil, x_dK, x_op2, x_op1, x_opL, x_ret, x_mov, x_var, x_fz, x_c, x_next, x_drop, x_if, x_and, x_or, x_not, x_chain, x_tchain, x_tcmp, x_tval, x_tand, x_tor, x_tnot, x_isi, x_call, x_args0, x_argsV, x_argsL, x_put0, x_putN, x_putS, x_evN, x_evE, x_ev0, x_evC, x_atN, x_atD, x_metN, x_pn, x_ps, x_sl, x_rg1, x_orT, x_lrg2, x_endR, x_endN, x_outT, x_outF, x_out0, x_keyC, x_keyN, y_int, y_bl, y_str, y_non, y_tup, y_lst, y_frl, y_nil, y_cons, ats_nil, ats_cons, onAt_0, onAt_s, on_tape, on_int, on_str, on_bl, on_non, on_tup, on_lst, on_hole, on_frl, true_and, and_true, and_assoc, List.getElem?_cons_zero, List.getElem?_cons_succ, Option.some.injEq, exists_and_left, exists_eq_left', exists_eq_left, exists_eq_right, exists_eq_right', tape_left, tape_spot, tape_cells, set_spot, set_left, r_int, r_mod, r_fdiv, r_lt, r_le, r_gt, r_ge, r_eq, r_ne, r_eqS, r_neS, r_add, r_addL, r_sub, r_mul, r_mulL, r_pow, r_intB, r_abs, r_neg, r_lenL, r_lenT, r_lenF, r_append, r_popAt, r_extend, r_tyL, r_min, fz_fz, fzL_fz, List.all_cons, List.all_nil, Bool.and_true, Bool.true_and, D.tup.injEq, D.int.injEq, D.bl.injEq, D.str.injEq, D.lst.injEq, List.cons.injEq, List.length_cons, List.length_nil, ex_plN, List.set_cons_succ, List.set_cons_zero, decide_eq_true_eq, Nat.reduceAdd, Nat.reduceLT, Nat.reduceLeDiff, Nat.zero_add, Bool.not_true, Bool.not_false, Bool.not_eq_true, Bool.and_false, Bool.false_and, D.hole.injEq, ite_true, ite_false, if_true, if_false, reduceIte, Bool.false_eq_true, Nat.lt_add_one, reduceCtorEq, false_and, and_false, exists_false, exists_const, ne_eq, not_false_eq_true, true_or, or_true, or_false, false_or, ht5.on, on_book]
      split
      · exact h1 _ _ ⟨z, rfl, hzs z hz⟩ ⟨t5, rfl, ht5⟩
      · exact h2 _ ⟨t5, rfl, ht5⟩
    · rintro ys s hyl hys ⟨t4, rfl, ht4⟩
      rw [List.length_map, Nat.zero_add] at ht4
      rw [List.length_map] at hyl
      obtain ⟨so, rfl, hso⟩ := all_ints hys
      rw [List.length_map] at hyl
      rw [List.nil_append]
      simp only [restore, unset, x_callZ, x_enumS, x_minD, x_maxD, r_powW, r_mulW, x_izipM, x_glst, x_izip, iz_tup, iz_lst, x_lcV, x_par3, x_lz3, x_lstS, x_star, x_izip3, x_sumL, x_tru, x_rg2, x_metP, x_yes, lo_l, so_l, so_t, tr_int, x_clear, ex_plB, pb_causes, pb_clashes, pb_undone, on_book, x_iseq, is_tup, is_lst, x_seq, x_ifS, x_asg, x_par, x_for, x_gname, x_gnil, x_gcons, x_gtup, x_gixP, x_tup, x_lst, x_cons, x_nil, x_dK, x_op2, x_op1, x_opL, x_ret, x_mov, x_var, x_fz, x_c, x_next, x_drop, x_if, x_and, x_or, x_not, x_chain, x_tchain, x_tcmp, x_tval, x_tand, x_tor, x_tnot, x_isi, x_call, x_args0, x_argsV, x_argsL, x_put0, x_putN, x_putS, x_evN, x_evE, x_ev0, x_evC, x_atN, x_atD, x_metN, x_pn, x_ps, x_sl, x_rg1, x_orT, x_lrg2, x_endR, x_endN, x_outT, x_outF, x_out0, x_keyC, x_keyN, y_int, y_bl, y_str, y_non, y_tup, y_lst, y_frl, y_nil, y_cons, ats_nil, ats_cons, onAt_0, onAt_s, on_tape, on_int, on_str, on_bl, on_non, on_tup, on_lst, on_hole, on_frl, true_and, and_true, and_assoc, List.getElem?_cons_zero, List.getElem?_cons_succ, Option.some.injEq, exists_and_left, exists_eq_left', exists_eq_left, exists_eq_right, exists_eq_right', tape_left, tape_spot, tape_cells, set_spot, set_left, r_int, r_mod, r_fdiv, r_lt, r_le, r_gt, r_ge, r_eq, r_ne, r_eqS, r_neS, r_add, r_addL, r_sub, r_mul, r_mulL, r_pow, r_intB, r_abs, r_neg, r_lenL, r_lenT, r_lenF, r_append, r_popAt, r_extend, r_tyL, r_min, fz_fz, fzL_fz, List.all_cons, List.all_nil, Bool.and_true, Bool.true_and, D.tup.injEq, D.int.injEq, D.bl.injEq, D.str.injEq, D.lst.injEq, List.cons.injEq, List.length_cons, List.length_nil, ex_plN, List.set_cons_succ, List.set_cons_zero, decide_eq_true_eq, Nat.reduceAdd, Nat.reduceLT, Nat.reduceLeDiff, Nat.zero_add, Bool.not_true, Bool.not_false, Bool.not_eq_true, Bool.and_false, Bool.false_and, D.hole.injEq, ite_true, ite_false, if_true, if_false, reduceIte, Bool.false_eq_true, Nat.lt_add_one, reduceCtorEq, false_and, and_false, exists_false, exists_const, ne_eq, not_false_eq_true, true_or, or_true, or_false, false_or, List.getD_eq_getElem?_getD, Option.getD_some, ht4.on, on_book, fzL_ints, List.length_map]
      refine ⟨sizeOk (by omega), by decide, ?_⟩
      refine lc_any (i := 0) (fun _ s => s = [t4, .int m, bookX true (.lst true (cs.map ilD)) fD uD, .lst true (ls.map .int), .int q4, .int q5, .int (0 + (i : Nat)), .lst false (zs.map .int), .lst false (so.map .int), .off]) (fun y => ∃ c, y = ilD c ∧ c.length ≤ 60) rfl ?_ ?_
      · rintro j x hx s rfl K1 K2 h1 h2
        obtain ⟨z, hz, rfl⟩ := List.mem_map.mp (List.mem_of_getElem? hx)
        obtain ⟨hz0, hz1⟩ := hso z hz
        obtain ⟨c1, hc1, e1, _⟩ := atI_map (f := ilD) (xs := cs) (i := z) hz0 hz1
        simp (maxSteps := 2000000) only [x_callZ, x_enumS, x_minD, x_maxD, r_powW, r_mulW, x_izipM, x_glst, x_izip, iz_tup, iz_lst, x_lcV, x_par3, x_lz3, x_lstS, x_star, x_izip3, x_sumL, x_tru, x_rg2, x_metP, x_yes, lo_l, so_l, so_t, tr_int, x_clear, ex_plB, pb_causes, pb_clashes, pb_undone, on_book, x_iseq, is_tup, is_lst, x_seq, x_ifS, x_asg, x_par, x_for, x_gname, x_gnil, x_gcons, x_gtup, x_gixP, x_tup, x_lst, x_cons, x_nil, x_dK, x_op2, x_op1, x_opL, x_ret, x_mov, x_var, x_fz, x_c, x_next, x_drop, x_if, x_and, x_or, x_not, x_chain, x_tchain, x_tcmp, x_tval, x_tand, x_tor, x_tnot, x_isi, x_call, x_args0, x_argsV, x_argsL, x_put0, x_putN, x_putS, x_evN, x_evE, x_ev0, x_evC, x_atN, x_atD, x_metN, x_pn, x_ps, x_sl, x_rg1, x_orT, x_lrg2, x_endR, x_endN, x_outT, x_outF, x_out0, x_keyC, x_keyN, y_int, y_bl, y_str, y_non, y_tup, y_lst, y_frl, y_nil, y_cons, ats_nil, ats_cons, onAt_0, onAt_s, on_tape, on_int, on_str, on_bl, on_non, on_tup, on_lst, on_hole, on_frl, true_and, and_true, and_assoc, List.getElem?_cons_zero, List.getElem?_cons_succ, Option.some.injEq, exists_and_left, exists_eq_left', exists_eq_left, exists_eq_right, exists_eq_right', tape_left, tape_spot, tape_cells, set_spot, set_left, r_int, r_mod, r_fdiv, r_lt, r_le, r_gt, r_ge, r_eq, r_ne, r_eqS, r_neS, r_add, r_addL, r_sub, r_mul, r_mulL, r_pow, r_intB, r_abs, r_neg, r_lenL, r_lenT, r_lenF, r_append, r_popAt, r_extend, r_tyL, r_min, fz_fz, fzL_fz, List.all_cons, List.all_nil, Bool.and_true, Bool.true_and, D.tup.injEq, D.int.injEq, D.bl.injEq, D.str.injEq, D.lst.injEq, List.cons.injEq, List.length_cons, List.length_nil, ex_plN, List.set_cons_succ, List.set_cons_zero, decide_eq_true_eq, Nat.reduceAdd, Nat.reduceLT, Nat.reduceLeDiff, Nat.zero_add, Bool.not_true, Bool.not_false, Bool.not_eq_true, Bool.and_false, Bool.false_and, D.hole.injEq, ite_true, ite_false, if_true, if_false, reduceIte, Bool.false_eq_true, Nat.lt_add_one, reduceCtorEq, false_and, and_false, exists_false, exists_const, ne_eq, not_false_eq_true, true_or, or_true, or_false, false_or]
        exact plv_causes (o := true) (o1 := true) (xs := cs.map ilD) (b := fD) (c := uD) (x := ilD c1) (n := z) rfl rfl e1 rfl fz_il (h1 _ _ ⟨c1, rfl, hc c1 hc1⟩ rfl)
      · rintro ys s hyl2 hys rfl
        obtain ⟨css, rfl, hcs⟩ := all_ils hys
        rw [List.length_map, List.length_map] at hyl2
        rw [List.nil_append]
        simp only [restore, unset, x_callZ, x_enumS, x_minD, x_maxD, r_powW, r_mulW, x_izipM, x_glst, x_izip, iz_tup, iz_lst, x_lcV, x_par3, x_lz3, x_lstS, x_star, x_izip3, x_sumL, x_tru, x_rg2, x_metP, x_yes, lo_l, so_l, so_t, tr_int, x_clear, ex_plB, pb_causes, pb_clashes, pb_undone, on_book, x_iseq, is_tup, is_lst, x_seq, x_ifS, x_asg, x_par, x_for, x_gname, x_gnil, x_gcons, x_gtup, x_gixP, x_tup, x_lst, x_cons, x_nil, x_dK, x_op2, x_op1, x_opL, x_ret, x_mov, x_var, x_fz, x_c, x_next, x_drop, x_if, x_and, x_or, x_not, x_chain, x_tchain, x_tcmp, x_tval, x_tand, x_tor, x_tnot, x_isi, x_call, x_args0, x_argsV, x_argsL, x_put0, x_putN, x_putS, x_evN, x_evE, x_ev0, x_evC, x_atN, x_atD, x_metN, x_pn, x_ps, x_sl, x_rg1, x_orT, x_lrg2, x_endR, x_endN, x_outT, x_outF, x_out0, x_keyC, x_keyN, y_int, y_bl, y_str, y_non, y_tup, y_lst, y_frl, y_nil, y_cons, ats_nil, ats_cons, onAt_0, onAt_s, on_tape, on_int, on_str, on_bl, on_non, on_tup, on_lst, on_hole, on_frl, true_and, and_true, and_assoc, List.getElem?_cons_zero, List.getElem?_cons_succ, Option.some.injEq, exists_and_left, exists_eq_left', exists_eq_left, exists_eq_right, exists_eq_right', tape_left, tape_spot, tape_cells, set_spot, set_left, r_int, r_mod, r_fdiv, r_lt, r_le, r_gt, r_ge, r_eq, r_ne, r_eqS, r_neS, r_add, r_addL, r_sub, r_mul, r_mulL, r_pow, r_intB, r_abs, r_neg, r_lenL, r_lenT, r_lenF, r_append, r_popAt, r_extend, r_tyL, r_min, fz_fz, fzL_fz, List.all_cons, List.all_nil, Bool.and_true, Bool.true_and, D.tup.injEq, D.int.injEq, D.bl.injEq, D.str.injEq, D.lst.injEq, List.cons.injEq, List.length_cons, List.length_nil, ex_plN, List.set_cons_succ, List.set_cons_zero, decide_eq_true_eq, Nat.reduceAdd, Nat.reduceLT, Nat.reduceLeDiff, Nat.zero_add, Bool.not_true, Bool.not_false, Bool.not_eq_true, Bool.and_false, Bool.false_and, D.hole.injEq, ite_true, ite_false, if_true, if_false, reduceIte, Bool.false_eq_true, Nat.lt_add_one, reduceCtorEq, false_and, and_false, exists_false, exists_const, ne_eq, not_false_eq_true, true_or, or_true, or_false, false_or, List.getD_eq_getElem?_getD, Option.getD_some, ht4.on, on_book, fzL_ints, List.length_map]
        have efl : (css.map fun c => c.map D.int).flatten = css.flatten.map .int := by rw [List.map_flatten]
        have hfl60 : css.flatten.length ≤ 3600 := flat_len (k := 60) hcs (n := 60) (by omega)
        refine ⟨css.map fun c => c.map .int, by rw [List.map_map]; rfl, fun ys hys => by obtain ⟨c, _, rfl⟩ := List.mem_map.mp hys; exact fzL_ints c, sizeOk (by rw [efl, List.length_map]; omega), by rw [efl]; exact fzL_ints _, sizeOk (by rw [efl, List.length_map]; omega), fun v => ⟨by omega, by omega, sizeOk (by rw [rangeD_len]; omega), by decide, ?_⟩⟩
        rw [efl, ← List.map_append]
        generalize so ++ css.flatten = s8
        obtain ⟨rg, hrg⟩ := range_ints (lo := 0) (n := (0 + (i : Nat) : Int).toNat)
        have hrl : rg.length = i := by
          have := congrArg List.length hrg
          rw [rangeD_len, List.length_map] at this
          omega
        rw [hrg]
        refine lc_any (i := 0) (fun _ s => s = [t4, .int m, bookX true (.hole v) fD uD, .lst true (ls.map .int), .int q4, .int q5, .int (0 + (i : Nat)), .lst false (zs.map .int), .lst true (s8.map .int), .off]) (fun y => ∃ z : Int, y = .int z ∧ True) rfl ?_ ?_
        · rintro j x hx s rfl K1 K2 h1 h2
          obtain ⟨z, hz, rfl⟩ := List.mem_map.mp (List.mem_of_getElem? hx)
          simp (maxSteps := 2000000) only [x_callZ, x_enumS, x_minD, x_maxD, r_powW, r_mulW, x_izipM, x_glst, x_izip, iz_tup, iz_lst, x_lcV, x_par3, x_lz3, x_lstS, x_star, x_izip3, x_sumL, x_tru, x_rg2, x_metP, x_yes, lo_l, so_l, so_t, tr_int, x_clear, ex_plB, pb_causes, pb_clashes, pb_undone, on_book, x_iseq, is_tup, is_lst, x_seq, x_ifS, x_asg, x_par, x_for, x_gname, x_gnil, x_gcons, x_gtup, x_gixP, x_tup, x_lst, x_cons, x_nil, x_dK, x_op2, x_op1, x_opL, x_ret, x_mov, x_var, x_fz, x_c, x_next, x_drop, x_if, x_and, x_or, x_not, x_chain, x_tchain, x_tcmp, x_tval, x_tand, x_tor, x_tnot, x_isi, x_call, x_args0, x_argsV, x_argsL, x_put0, x_putN, x_putS, x_evN, x_evE, x_ev0, x_evC, x_atN, x_atD, x_metN, x_pn, x_ps, x_sl, x_rg1, x_orT, x_lrg2, x_endR, x_endN, x_outT, x_outF, x_out0, x_keyC, x_keyN, y_int, y_bl, y_str, y_non, y_tup, y_lst, y_frl, y_nil, y_cons, ats_nil, ats_cons, onAt_0, onAt_s, on_tape, on_int, on_str, on_bl, on_non, on_tup, on_lst, on_hole, on_frl, true_and, and_true, and_assoc, List.getElem?_cons_zero, List.getElem?_cons_succ, Option.some.injEq, exists_and_left, exists_eq_left', exists_eq_left, exists_eq_right, exists_eq_right', tape_left, tape_spot, tape_cells, set_spot, set_left, r_int, r_mod, r_fdiv, r_lt, r_le, r_gt, r_ge, r_eq, r_ne, r_eqS, r_neS, r_add, r_addL, r_sub, r_mul, r_mulL, r_pow, r_intB, r_abs, r_neg, r_lenL, r_lenT, r_lenF, r_append, r_popAt, r_extend, r_tyL, r_min, fz_fz, fzL_fz, List.all_cons, List.all_nil, Bool.and_true, Bool.true_and, D.tup.injEq, D.int.injEq, D.bl.injEq, D.str.injEq, D.lst.injEq, List.cons.injEq, List.length_cons, List.length_nil, ex_plN, List.set_cons_succ, List.set_cons_zero, decide_eq_true_eq, Nat.reduceAdd, Nat.reduceLT, Nat.reduceLeDiff, Nat.zero_add, Bool.not_true, Bool.not_false, Bool.not_eq_true, Bool.and_false, Bool.false_and, D.hole.injEq, ite_true, ite_false, if_true, if_false, reduceIte, Bool.false_eq_true, Nat.lt_add_one, reduceCtorEq, false_and, and_false, exists_false, exists_const, ne_eq, not_false_eq_true, true_or, or_true, or_false, false_or]
          rw [r_in]
          simp (maxSteps := 2000000) only [x_callZ, x_enumS, x_minD, x_maxD, r_powW, r_mulW, x_izipM, x_glst, x_izip, iz_tup, iz_lst, x_lcV, x_par3, x_lz3, x_lstS, x_star, x_izip3, x_sumL, x_tru, x_rg2, x_metP, x_yes, lo_l, so_l, so_t, tr_int, x_clear, ex_plB, pb_causes, pb_clashes, pb_undone, on_book, x_iseq, is_tup, is_lst, x_seq, x_ifS, x_asg, x_par, x_for, x_gname, x_gnil, x_gcons, x_gtup, x_gixP, x_tup, x_lst, x_cons, x_nil, x_dK, x_op2, x_op1, x_opL, x_ret, x_mov, x_var, x_fz, x_c, x_next, x_drop, x_if, x_and, x_or, x_not, x_chain, x_tchain, x_tcmp, x_tval, x_tand, x_tor, x_tnot, x_isi, x_call, x_args0, x_argsV, x_argsL, x_put0, x_putN, x_putS, x_evN, x_evE, x_ev0, x_evC, x_atN, x_atD, x_metN, x_pn, x_ps, x_sl, x_rg1, x_orT, x_lrg2, x_endR, x_endN, x_outT, x_outF, x_out0, x_keyC, x_keyN, y_int, y_bl, y_str, y_non, y_tup, y_lst, y_frl, y_nil, y_cons, ats_nil, ats_cons, onAt_0, onAt_s, on_tape, on_int, on_str, on_bl, on_non, on_tup, on_lst, on_hole, on_frl, true_and, and_true, and_assoc, List.getElem?_cons_zero, List.getElem?_cons_succ, Option.some.injEq, exists_and_left, exists_eq_left', exists_eq_left, exists_eq_right, exists_eq_right', tape_left, tape_spot, tape_cells, set_spot, set_left, r_int, r_mod, r_fdiv, r_lt, r_le, r_gt, r_ge, r_eq, r_ne, r_eqS, r_neS, r_add, r_addL, r_sub, r_mul, r_mulL, r_pow, r_intB, r_abs, r_neg, r_lenL, r_lenT, r_lenF, r_append, r_popAt, r_extend, r_tyL, r_min, fz_fz, fzL_fz, List.all_cons, List.all_nil, Bool.and_true, Bool.true_and, D.tup.injEq, D.int.injEq, D.bl.injEq, D.str.injEq, D.lst.injEq, List.cons.injEq, List.length_cons, List.length_nil, ex_plN, List.set_cons_succ, List.set_cons_zero, decide_eq_true_eq, Nat.reduceAdd, Nat.reduceLT, Nat.reduceLeDiff, Nat.zero_add, Bool.not_true, Bool.not_false, Bool.not_eq_true, Bool.and_false, Bool.false_and, D.hole.injEq, ite_true, ite_false, if_true, if_false, reduceIte, Bool.false_eq_true, Nat.lt_add_one, reduceCtorEq, false_and, and_false, exists_false, exists_const, ne_eq, not_false_eq_true, true_or, or_true, or_false, false_or]
          split
          · exact h1 _ _ ⟨z, rfl, trivial⟩ rfl
          · exact h2 _ rfl
        · rintro ys s hyl3 hys rfl
          obtain ⟨c9, rfl, _⟩ := all_ints hys
          rw [List.length_map, List.length_map] at hyl3
          rw [List.nil_append]
          have onF : on fD = true := by rw [← hF]; rfl
          have onU : on uD = true := by rw [← hB]; rfl
          simp only [restore, unset, x_callZ, x_enumS, x_minD, x_maxD, r_powW, r_mulW, x_izipM, x_glst, x_izip, iz_tup, iz_lst, x_lcV, x_par3, x_lz3, x_lstS, x_star, x_izip3, x_sumL, x_tru, x_rg2, x_metP, x_yes, lo_l, so_l, so_t, tr_int, x_clear, ex_plB, pb_causes, pb_clashes, pb_undone, on_book, x_iseq, is_tup, is_lst, x_seq, x_ifS, x_asg, x_par, x_for, x_gname, x_gnil, x_gcons, x_gtup, x_gixP, x_tup, x_lst, x_cons, x_nil, x_dK, x_op2, x_op1, x_opL, x_ret, x_mov, x_var, x_fz, x_c, x_next, x_drop, x_if, x_and, x_or, x_not, x_chain, x_tchain, x_tcmp, x_tval, x_tand, x_tor, x_tnot, x_isi, x_call, x_args0, x_argsV, x_argsL, x_put0, x_putN, x_putS, x_evN, x_evE, x_ev0, x_evC, x_atN, x_atD, x_metN, x_pn, x_ps, x_sl, x_rg1, x_orT, x_lrg2, x_endR, x_endN, x_outT, x_outF, x_out0, x_keyC, x_keyN, y_int, y_bl, y_str, y_non, y_tup, y_lst, y_frl, y_nil, y_cons, ats_nil, ats_cons, onAt_0, onAt_s, on_tape, on_int, on_str, on_bl, on_non, on_tup, on_lst, on_hole, on_frl, true_and, and_true, and_assoc, List.getElem?_cons_zero, List.getElem?_cons_succ, Option.some.injEq, exists_and_left, exists_eq_left', exists_eq_left, exists_eq_right, exists_eq_right', tape_left, tape_spot, tape_cells, set_spot, set_left, r_int, r_mod, r_fdiv, r_lt, r_le, r_gt, r_ge, r_eq, r_ne, r_eqS, r_neS, r_add, r_addL, r_sub, r_mul, r_mulL, r_pow, r_intB, r_abs, r_neg, r_lenL, r_lenT, r_lenF, r_append, r_popAt, r_extend, r_tyL, r_min, fz_fz, fzL_fz, List.all_cons, List.all_nil, Bool.and_true, Bool.true_and, D.tup.injEq, D.int.injEq, D.bl.injEq, D.str.injEq, D.lst.injEq, List.cons.injEq, List.length_cons, List.length_nil, ex_plN, List.set_cons_succ, List.set_cons_zero, decide_eq_true_eq, Nat.reduceAdd, Nat.reduceLT, Nat.reduceLeDiff, Nat.zero_add, Bool.not_true, Bool.not_false, Bool.not_eq_true, Bool.and_false, Bool.false_and, D.hole.injEq, ite_true, ite_false, if_true, if_false, reduceIte, Bool.false_eq_true, Nat.lt_add_one, reduceCtorEq, false_and, and_false, exists_false, exists_const, ne_eq, not_false_eq_true, true_or, or_true, or_false, false_or, List.getD_eq_getElem?_getD, Option.getD_some, ht4.on, on_book, fzL_ints, List.length_map, onF, onU]
          refine ⟨Nat.lt_of_le_of_lt (Nat.le_of_eq hcl) (by rw [sizeLine_eq]; omega), ?_⟩
          subst hF
          simp (maxSteps := 2000000) only [x_callZ, x_enumS, x_minD, x_maxD, r_powW, r_mulW, x_izipM, x_glst, x_izip, iz_tup, iz_lst, x_lcV, x_par3, x_lz3, x_lstS, x_star, x_izip3, x_sumL, x_tru, x_rg2, x_metP, x_yes, lo_l, so_l, so_t, tr_int, x_clear, ex_plB, pb_causes, pb_clashes, pb_undone, on_book, x_iseq, is_tup, is_lst, x_seq, x_ifS, x_asg, x_par, x_for, x_gname, x_gnil, x_gcons, x_gtup, x_gixP, x_tup, x_lst, x_cons, x_nil, x_dK, x_op2, x_op1, x_opL, x_ret, x_mov, x_var, x_fz, x_c, x_next, x_drop, x_if, x_and, x_or, x_not, x_chain, x_tchain, x_tcmp, x_tval, x_tand, x_tor, x_tnot, x_isi, x_call, x_args0, x_argsV, x_argsL, x_put0, x_putN, x_putS, x_evN, x_evE, x_ev0, x_evC, x_atN, x_atD, x_metN, x_pn, x_ps, x_sl, x_rg1, x_orT, x_lrg2, x_endR, x_endN, x_outT, x_outF, x_out0, x_keyC, x_keyN, y_int, y_bl, y_str, y_non, y_tup, y_lst, y_frl, y_nil, y_cons, ats_nil, ats_cons, onAt_0, onAt_s, on_tape, on_int, on_str, on_bl, on_non, on_tup, on_lst, on_hole, on_frl, true_and, and_true, and_assoc, List.getElem?_cons_zero, List.getElem?_cons_succ, Option.some.injEq, exists_and_left, exists_eq_left', exists_eq_left, exists_eq_right, exists_eq_right', tape_left, tape_spot, tape_cells, set_spot, set_left, r_int, r_mod, r_fdiv, r_lt, r_le, r_gt, r_ge, r_eq, r_ne, r_eqS, r_neS, r_add, r_addL, r_sub, r_mul, r_mulL, r_pow, r_intB, r_abs, r_neg, r_lenL, r_lenT, r_lenF, r_append, r_popAt, r_extend, r_tyL, r_min, fz_fz, fzL_fz, List.all_cons, List.all_nil, Bool.and_true, Bool.true_and, D.tup.injEq, D.int.injEq, D.bl.injEq, D.str.injEq, D.lst.injEq, List.cons.injEq, List.length_cons, List.length_nil, ex_plN, List.set_cons_succ, List.set_cons_zero, decide_eq_true_eq, Nat.reduceAdd, Nat.reduceLT, Nat.reduceLeDiff, Nat.zero_add, Bool.not_true, Bool.not_false, Bool.not_eq_true, Bool.and_false, Bool.false_and, D.hole.injEq, ite_true, ite_false, if_true, if_false, reduceIte, Bool.false_eq_true, Nat.lt_add_one, reduceCtorEq, false_and, and_false, exists_false, exists_const, ne_eq, not_false_eq_true, true_or, or_true, or_false, false_or, on_book, ht4.on]
          intro v
          refine ⟨by omega, by omega, sizeOk (by rw [rangeD_len]; omega), by decide, ?_⟩
          rw [hrg]
          refine lc_any (i := 0) (fun j s => ∃ t5, s = [t5, .int m, bookX true (.lst true (cs.map ilD ++ [.lst false (c9.map .int)])) (.hole v) uD, .lst true (ls.map .int), .int q4, .int q5, .int (0 + (i : Nat)), .lst false (zs.map .int), .lst true (s8.map .int), .off] ∧ Tape (n + 300 * (60 - (i + 1)) + 140 - j) t5) (fun y => ∃ z : Int, y = .int z ∧ True) ⟨t4, rfl, ht4.mono (by omega)⟩ ?_ ?_
          · rintro j x hx s ⟨t5, rfl, ht5⟩ K1 K2 h1 h2
            have hj := (List.getElem?_eq_some_iff.mp hx).1
            rw [List.length_map] at hj
            obtain ⟨z, hz, rfl⟩ := List.mem_map.mp (List.mem_of_getElem? hx)
            rw [Nat.zero_add] at ht5 h1 h2
            simp (maxSteps := 2000000) only [x_callZ, x_enumS, x_minD, x_maxD, r_powW, r_mulW, x_izipM, x_glst, x_izip, iz_tup, iz_lst, x_lcV, x_par3, x_lz3, x_lstS, x_star, x_izip3, x_sumL, x_tru, x_rg2, x_metP, x_yes, lo_l, so_l, so_t, tr_int, x_clear, ex_plB, pb_causes, pb_clashes, pb_undone, on_book, x_iseq, is_tup, is_lst, x_seq, x_ifS, x_asg, x_par, x_for, x_gname, x_gnil, x_gcons, x_gtup, x_gixP, x_tup, x_lst, x_cons, x_nil, x_dK, x_op2, x_op1, x_opL, x_ret, x_mov, x_var, x_fz, x_c, x_next, x_drop, x_if, x_and, x_or, x_not, x_chain, x_tchain, x_tcmp, x_tval, x_tand, x_tor, x_tnot, x_isi, x_call, x_args0, x_argsV, x_argsL, x_put0, x_putN, x_putS, x_evN, x_evE, x_ev0, x_evC, x_atN, x_atD, x_metN, x_pn, x_ps, x_sl, x_rg1, x_orT, x_lrg2, x_endR, x_endN, x_outT, x_outF, x_out0, x_keyC, x_keyN, y_int, y_bl, y_str, y_non, y_tup, y_lst, y_frl, y_nil, y_cons, ats_nil, ats_cons, onAt_0, onAt_s, on_tape, on_int, on_str, on_bl, on_non, on_tup, on_lst, on_hole, on_frl, true_and, and_true, and_assoc, List.getElem?_cons_zero, List.getElem?_cons_succ, Option.some.injEq, exists_and_left, exists_eq_left', exists_eq_left, exists_eq_right, exists_eq_right', tape_left, tape_spot, tape_cells, set_spot, set_left, r_int, r_mod, r_fdiv, r_lt, r_le, r_gt, r_ge, r_eq, r_ne, r_eqS, r_neS, r_add, r_addL, r_sub, r_mul, r_mulL, r_pow, r_intB, r_abs, r_neg, r_lenL, r_lenT, r_lenF, r_append, r_popAt, r_extend, r_tyL, r_min, fz_fz, fzL_fz, List.all_cons, List.all_nil, Bool.and_true, Bool.true_and, D.tup.injEq, D.int.injEq, D.bl.injEq, D.str.injEq, D.lst.injEq, List.cons.injEq, List.length_cons, List.length_nil, ex_plN, List.set_cons_succ, List.set_cons_zero, decide_eq_true_eq, Nat.reduceAdd, Nat.reduceLT, Nat.reduceLeDiff, Nat.zero_add, Bool.not_true, Bool.not_false, Bool.not_eq_true, Bool.and_false, Bool.false_and, D.hole.injEq, ite_true, ite_false, if_true, if_false, reduceIte, Bool.false_eq_true, Nat.lt_add_one, reduceCtorEq, false_and, and_false, exists_false, exists_const, ne_eq, not_false_eq_true, true_or, or_true, or_false, false_or]
            rw [r_nin]
            simp (maxSteps := 2000000) only [x_callZ, x_enumS, x_minD, x_maxD, r_powW, r_mulW, x_izipM, x_glst, x_izip, iz_tup, iz_lst, x_lcV, x_par3, x_lz3, x_lstS, x_star, x_izip3, x_sumL, x_tru, x_rg2, x_metP, x_yes, lo_l, so_l, so_t, tr_int, x_clear, ex_plB, pb_causes, pb_clashes, pb_undone, on_book, x_iseq, is_tup, is_lst, x_seq, x_ifS, x_asg, x_par, x_for, x_gname, x_gnil, x_gcons, x_gtup, x_gixP, x_tup, x_lst, x_cons, x_nil, x_dK, x_op2, x_op1, x_opL, x_ret, x_mov, x_var, x_fz, x_c, x_next, x_drop, x_if, x_and, x_or, x_not, x_chain, x_tchain, x_tcmp, x_tval, x_tand, x_tor, x_tnot, x_isi, x_call, x_args0, x_argsV, x_argsL, x_put0, x_putN, x_putS, x_evN, x_evE, x_ev0, x_evC, x_atN, x_atD, x_metN, x_pn, x_ps, x_sl, x_rg1, x_orT, x_lrg2, x_endR, x_endN, x_outT, x_outF, x_out0, x_keyC, x_keyN, y_int, y_bl, y_str, y_non, y_tup, y_lst, y_frl, y_nil, y_cons, ats_nil, ats_cons, onAt_0, onAt_s, on_tape, on_int, on_str, on_bl, on_non, on_tup, on_lst, on_hole, on_frl, true_and, and_true, and_assoc, List.getElem?_cons_zero, List.getElem?_cons_succ, Option.some.injEq, exists_and_left, exists_eq_left', exists_eq_left, exists_eq_right, exists_eq_right', tape_left, tape_spot, tape_cells, set_spot, set_left, r_int, r_mod, r_fdiv, r_lt, r_le, r_gt, r_ge, r_eq, r_ne, r_eqS, r_neS, r_add, r_addL, r_sub, r_mul, r_mulL, r_pow, r_intB, r_abs, r_neg, r_lenL, r_lenT, r_lenF, r_append, r_popAt, r_extend, r_tyL, r_min, fz_fz, fzL_fz, List.all_cons, List.all_nil, Bool.and_true, Bool.true_and, D.tup.injEq, D.int.injEq, D.bl.injEq, D.str.injEq, D.lst.injEq, List.cons.injEq, List.length_cons, List.length_nil, ex_plN, List.set_cons_succ, List.set_cons_zero, decide_eq_true_eq, Nat.reduceAdd, Nat.reduceLT, Nat.reduceLeDiff, Nat.zero_add, Bool.not_true, Bool.not_false, Bool.not_eq_true, Bool.and_false, Bool.false_and, D.hole.injEq, ite_true, ite_false, if_true, if_false, reduceIte, Bool.false_eq_true, Nat.lt_add_one, reduceCtorEq, false_and, and_false, exists_false, exists_const, ne_eq, not_false_eq_true, true_or, or_true, or_false, false_or, ht5.on]
            split
            · intro v
              refine to_draw (n := n + 300 * (60 - (i + 1)) + 140 - (j + 1)) (ht5.mono (by omega)) (by omega) (by omega) fun r t6 hr0 hr1 ht6 => ?_
              simp (maxSteps := 2000000) only [x_callZ, x_enumS, x_minD, x_maxD, r_powW, r_mulW, x_izipM, x_glst, x_izip, iz_tup, iz_lst, x_lcV, x_par3, x_lz3, x_lstS, x_star, x_izip3, x_sumL, x_tru, x_rg2, x_metP, x_yes, lo_l, so_l, so_t, tr_int, x_clear, ex_plB, pb_causes, pb_clashes, pb_undone, on_book, x_iseq, is_tup, is_lst, x_seq, x_ifS, x_asg, x_par, x_for, x_gname, x_gnil, x_gcons, x_gtup, x_gixP, x_tup, x_lst, x_cons, x_nil, x_dK, x_op2, x_op1, x_opL, x_ret, x_mov, x_var, x_fz, x_c, x_next, x_drop, x_if, x_and, x_or, x_not, x_chain, x_tchain, x_tcmp, x_tval, x_tand, x_tor, x_tnot, x_isi, x_call, x_args0, x_argsV, x_argsL, x_put0, x_putN, x_putS, x_evN, x_evE, x_ev0, x_evC, x_atN, x_atD, x_metN, x_pn, x_ps, x_sl, x_rg1, x_orT, x_lrg2, x_endR, x_endN, x_outT, x_outF, x_out0, x_keyC, x_keyN, y_int, y_bl, y_str, y_non, y_tup, y_lst, y_frl, y_nil, y_cons, ats_nil, ats_cons, onAt_0, onAt_s, on_tape, on_int, on_str, on_bl, on_non, on_tup, on_lst, on_hole, on_frl, true_and, and_true, and_assoc, List.getElem?_cons_zero, List.getElem?_cons_succ, Option.some.injEq, exists_and_left, exists_eq_left', exists_eq_left, exists_eq_right, exists_eq_right', tape_left, tape_spot, tape_cells, set_spot, set_left, r_int, r_mod, r_fdiv, r_lt, r_le, r_gt, r_ge, r_eq, r_ne, r_eqS, r_neS, r_add, r_addL, r_sub, r_mul, r_mulL, r_pow, r_intB, r_abs, r_neg, r_lenL, r_lenT, r_lenF, r_append, r_popAt, r_extend, r_tyL, r_min, fz_fz, fzL_fz, List.all_cons, List.all_nil, Bool.and_true, Bool.true_and, D.tup.injEq, D.int.injEq, D.bl.injEq, D.str.injEq, D.lst.injEq, List.cons.injEq, List.length_cons, List.length_nil, ex_plN, List.set_cons_succ, List.set_cons_zero, decide_eq_true_eq, Nat.reduceAdd, Nat.reduceLT, Nat.reduceLeDiff, Nat.zero_add, Bool.not_true, Bool.not_false, Bool.not_eq_true, Bool.and_false, Bool.false_and, D.hole.injEq, ite_true, ite_false, if_true, if_false, reduceIte, Bool.false_eq_true, Nat.lt_add_one, reduceCtorEq, false_and, and_false, exists_false, exists_const, ne_eq, not_false_eq_true, true_or, or_true, or_false, false_or, ht6.on]
              split
              · exact h1 _ _ ⟨z, rfl, trivial⟩ ⟨t6, rfl, ht6⟩
              · exact h2 _ ⟨t6, rfl, ht6⟩
            · exact h2 _ ⟨t5, rfl, ht5.mono (by omega)⟩
          · rintro ys s hyl4 hys ⟨t5, rfl, ht5⟩
            obtain ⟨f9, rfl, _⟩ := all_ints hys
            rw [List.length_map, List.length_map] at hyl4
            rw [List.nil_append]
            rw [List.length_map, Nat.zero_add] at ht5
            simp only [restore, unset, x_callZ, x_enumS, x_minD, x_maxD, r_powW, r_mulW, x_izipM, x_glst, x_izip, iz_tup, iz_lst, x_lcV, x_par3, x_lz3, x_lstS, x_star, x_izip3, x_sumL, x_tru, x_rg2, x_metP, x_yes, lo_l, so_l, so_t, tr_int, x_clear, ex_plB, pb_causes, pb_clashes, pb_undone, on_book, x_iseq, is_tup, is_lst, x_seq, x_ifS, x_asg, x_par, x_for, x_gname, x_gnil, x_gcons, x_gtup, x_gixP, x_tup, x_lst, x_cons, x_nil, x_dK, x_op2, x_op1, x_opL, x_ret, x_mov, x_var, x_fz, x_c, x_next, x_drop, x_if, x_and, x_or, x_not, x_chain, x_tchain, x_tcmp, x_tval, x_tand, x_tor, x_tnot, x_isi, x_call, x_args0, x_argsV, x_argsL, x_put0, x_putN, x_putS, x_evN, x_evE, x_ev0, x_evC, x_atN, x_atD, x_metN, x_pn, x_ps, x_sl, x_rg1, x_orT, x_lrg2, x_endR, x_endN, x_outT, x_outF, x_out0, x_keyC, x_keyN, y_int, y_bl, y_str, y_non, y_tup, y_lst, y_frl, y_nil, y_cons, ats_nil, ats_cons, onAt_0, onAt_s, on_tape, on_int, on_str, on_bl, on_non, on_tup, on_lst, on_hole, on_frl, true_and, and_true, and_assoc, List.getElem?_cons_zero, List.getElem?_cons_succ, Option.some.injEq, exists_and_left, exists_eq_left', exists_eq_left, exists_eq_right, exists_eq_right', tape_left, tape_spot, tape_cells, set_spot, set_left, r_int, r_mod, r_fdiv, r_lt, r_le, r_gt, r_ge, r_eq, r_ne, r_eqS, r_neS, r_add, r_addL, r_sub, r_mul, r_mulL, r_pow, r_intB, r_abs, r_neg, r_lenL, r_lenT, r_lenF, r_append, r_popAt, r_extend, r_tyL, r_min, fz_fz, fzL_fz, List.all_cons, List.all_nil, Bool.and_true, Bool.true_and, D.tup.injEq, D.int.injEq, D.bl.injEq, D.str.injEq, D.lst.injEq, List.cons.injEq, List.length_cons, List.length_nil, ex_plN, List.set_cons_succ, List.set_cons_zero, decide_eq_true_eq, Nat.reduceAdd, Nat.reduceLT, Nat.reduceLeDiff, Nat.zero_add, Bool.not_true, Bool.not_false, Bool.not_eq_true, Bool.and_false, Bool.false_and, D.hole.injEq, ite_true, ite_false, if_true, if_false, reduceIte, Bool.false_eq_true, Nat.lt_add_one, reduceCtorEq, false_and, and_false, exists_false, exists_const, ne_eq, not_false_eq_true, true_or, or_true, or_false, false_or, List.getD_eq_getElem?_getD, Option.getD_some, ht5.on, on_book, fzL_ints, List.length_map, onU]
            refine ⟨Nat.lt_of_le_of_lt (Nat.le_of_eq hfl) (by rw [sizeLine_eq]; omega), ?_⟩
            subst hB
            simp (maxSteps := 2000000) only [x_callZ, x_enumS, x_minD, x_maxD, r_powW, r_mulW, x_izipM, x_glst, x_izip, iz_tup, iz_lst, x_lcV, x_par3, x_lz3, x_lstS, x_star, x_izip3, x_sumL, x_tru, x_rg2, x_metP, x_yes, lo_l, so_l, so_t, tr_int, x_clear, ex_plB, pb_causes, pb_clashes, pb_undone, on_book, x_iseq, is_tup, is_lst, x_seq, x_ifS, x_asg, x_par, x_for, x_gname, x_gnil, x_gcons, x_gtup, x_gixP, x_tup, x_lst, x_cons, x_nil, x_dK, x_op2, x_op1, x_opL, x_ret, x_mov, x_var, x_fz, x_c, x_next, x_drop, x_if, x_and, x_or, x_not, x_chain, x_tchain, x_tcmp, x_tval, x_tand, x_tor, x_tnot, x_isi, x_call, x_args0, x_argsV, x_argsL, x_put0, x_putN, x_putS, x_evN, x_evE, x_ev0, x_evC, x_atN, x_atD, x_metN, x_pn, x_ps, x_sl, x_rg1, x_orT, x_lrg2, x_endR, x_endN, x_outT, x_outF, x_out0, x_keyC, x_keyN, y_int, y_bl, y_str, y_non, y_tup, y_lst, y_frl, y_nil, y_cons, ats_nil, ats_cons, onAt_0, onAt_s, on_tape, on_int, on_str, on_bl, on_non, on_tup, on_lst, on_hole, on_frl, true_and, and_true, and_assoc, List.getElem?_cons_zero, List.getElem?_cons_succ, Option.some.injEq, exists_and_left, exists_eq_left', exists_eq_left, exists_eq_right, exists_eq_right', tape_left, tape_spot, tape_cells, set_spot, set_left, r_int, r_mod, r_fdiv, r_lt, r_le, r_gt, r_ge, r_eq, r_ne, r_eqS, r_neS, r_add, r_addL, r_sub, r_mul, r_mulL, r_pow, r_intB, r_abs, r_neg, r_lenL, r_lenT, r_lenF, r_append, r_popAt, r_extend, r_tyL, r_min, fz_fz, fzL_fz, List.all_cons, List.all_nil, Bool.and_true, Bool.true_and, D.tup.injEq, D.int.injEq, D.bl.injEq, D.str.injEq, D.lst.injEq, List.cons.injEq, List.length_cons, List.length_nil, ex_plN, List.set_cons_succ, List.set_cons_zero, decide_eq_true_eq, Nat.reduceAdd, Nat.reduceLT, Nat.reduceLeDiff, Nat.zero_add, Bool.not_true, Bool.not_false, Bool.not_eq_true, Bool.and_false, Bool.false_and, D.hole.injEq, ite_true, ite_false, if_true, if_false, reduceIte, Bool.false_eq_true, Nat.lt_add_one, reduceCtorEq, false_and, and_false, exists_false, exists_const, ne_eq, not_false_eq_true, true_or, or_true, or_false, false_or, on_book, ht5.on]
            intro v1 v2
            have hlen := hp.length_eq
            rw [List.length_append, List.length_map, upto_len] at hlen
            simp only [List.length_map]
            refine to_draw (n := n + 300 * (60 - (i + 1)) + 60) (ht5.mono (by omega)) (by omega) (by omega) fun r t6 hr0 hr1 ht6 => ?_
            simp (maxSteps := 2000000) only [x_callZ, x_enumS, x_minD, x_maxD, r_powW, r_mulW, x_izipM, x_glst, x_izip, iz_tup, iz_lst, x_lcV, x_par3, x_lz3, x_lstS, x_star, x_izip3, x_sumL, x_tru, x_rg2, x_metP, x_yes, lo_l, so_l, so_t, tr_int, x_clear, ex_plB, pb_causes, pb_clashes, pb_undone, on_book, x_iseq, is_tup, is_lst, x_seq, x_ifS, x_asg, x_par, x_for, x_gname, x_gnil, x_gcons, x_gtup, x_gixP, x_tup, x_lst, x_cons, x_nil, x_dK, x_op2, x_op1, x_opL, x_ret, x_mov, x_var, x_fz, x_c, x_next, x_drop, x_if, x_and, x_or, x_not, x_chain, x_tchain, x_tcmp, x_tval, x_tand, x_tor, x_tnot, x_isi, x_call, x_args0, x_argsV, x_argsL, x_put0, x_putN, x_putS, x_evN, x_evE, x_ev0, x_evC, x_atN, x_atD, x_metN, x_pn, x_ps, x_sl, x_rg1, x_orT, x_lrg2, x_endR, x_endN, x_outT, x_outF, x_out0, x_keyC, x_keyN, y_int, y_bl, y_str, y_non, y_tup, y_lst, y_frl, y_nil, y_cons, ats_nil, ats_cons, onAt_0, onAt_s, on_tape, on_int, on_str, on_bl, on_non, on_tup, on_lst, on_hole, on_frl, true_and, and_true, and_assoc, List.getElem?_cons_zero, List.getElem?_cons_succ, Option.some.injEq, exists_and_left, exists_eq_left', exists_eq_left, exists_eq_right, exists_eq_right', tape_left, tape_spot, tape_cells, set_spot, set_left, r_int, r_mod, r_fdiv, r_lt, r_le, r_gt, r_ge, r_eq, r_ne, r_eqS, r_neS, r_add, r_addL, r_sub, r_mul, r_mulL, r_pow, r_intB, r_abs, r_neg, r_lenL, r_lenT, r_lenF, r_append, r_popAt, r_extend, r_tyL, r_min, fz_fz, fzL_fz, List.all_cons, List.all_nil, Bool.and_true, Bool.true_and, D.tup.injEq, D.int.injEq, D.bl.injEq, D.str.injEq, D.lst.injEq, List.cons.injEq, List.length_cons, List.length_nil, ex_plN, List.set_cons_succ, List.set_cons_zero, decide_eq_true_eq, Nat.reduceAdd, Nat.reduceLT, Nat.reduceLeDiff, Nat.zero_add, Bool.not_true, Bool.not_false, Bool.not_eq_true, Bool.and_false, Bool.false_and, D.hole.injEq, ite_true, ite_false, if_true, if_false, reduceIte, Bool.false_eq_true, Nat.lt_add_one, reduceCtorEq, false_and, and_false, exists_false, exists_const, ne_eq, not_false_eq_true, true_or, or_true, or_false, false_or, ht6.on, on_book, List.length_map]
            have hr2 : r.toNat < ls.length := by omega
            refine ⟨by omega, by omega, r.toNat, seqIx hr0 hr1, .int ls[r.toNat], by rw [List.getElem?_map, List.getElem?_eq_getElem hr2]; rfl, ?_⟩
            intro v3
            refine to_pickI (ns := [1, 1, -1]) (n := n + 300 * (60 - (i + 1))) (ht6.mono (by omega)) (by simp) (by simp) fun q7 t7 hq7 ht7 => ?_
            have hq7' : q7 = 1 ∨ q7 = -1 := by
              simp only [List.mem_cons, List.not_mem_nil, or_false] at hq7
              omega
            simp (maxSteps := 2000000) only [x_callZ, x_enumS, x_minD, x_maxD, r_powW, r_mulW, x_izipM, x_glst, x_izip, iz_tup, iz_lst, x_lcV, x_par3, x_lz3, x_lstS, x_star, x_izip3, x_sumL, x_tru, x_rg2, x_metP, x_yes, lo_l, so_l, so_t, tr_int, x_clear, ex_plB, pb_causes, pb_clashes, pb_undone, on_book, x_iseq, is_tup, is_lst, x_seq, x_ifS, x_asg, x_par, x_for, x_gname, x_gnil, x_gcons, x_gtup, x_gixP, x_tup, x_lst, x_cons, x_nil, x_dK, x_op2, x_op1, x_opL, x_ret, x_mov, x_var, x_fz, x_c, x_next, x_drop, x_if, x_and, x_or, x_not, x_chain, x_tchain, x_tcmp, x_tval, x_tand, x_tor, x_tnot, x_isi, x_call, x_args0, x_argsV, x_argsL, x_put0, x_putN, x_putS, x_evN, x_evE, x_ev0, x_evC, x_atN, x_atD, x_metN, x_pn, x_ps, x_sl, x_rg1, x_orT, x_lrg2, x_endR, x_endN, x_outT, x_outF, x_out0, x_keyC, x_keyN, y_int, y_bl, y_str, y_non, y_tup, y_lst, y_frl, y_nil, y_cons, ats_nil, ats_cons, onAt_0, onAt_s, on_tape, on_int, on_str, on_bl, on_non, on_tup, on_lst, on_hole, on_frl, true_and, and_true, and_assoc, List.getElem?_cons_zero, List.getElem?_cons_succ, Option.some.injEq, exists_and_left, exists_eq_left', exists_eq_left, exists_eq_right, exists_eq_right', tape_left, tape_spot, tape_cells, set_spot, set_left, r_int, r_mod, r_fdiv, r_lt, r_le, r_gt, r_ge, r_eq, r_ne, r_eqS, r_neS, r_add, r_addL, r_sub, r_mul, r_mulL, r_pow, r_intB, r_abs, r_neg, r_lenL, r_lenT, r_lenF, r_append, r_popAt, r_extend, r_tyL, r_min, fz_fz, fzL_fz, List.all_cons, List.all_nil, Bool.and_true, Bool.true_and, D.tup.injEq, D.int.injEq, D.bl.injEq, D.str.injEq, D.lst.injEq, List.cons.injEq, List.length_cons, List.length_nil, ex_plN, List.set_cons_succ, List.set_cons_zero, decide_eq_true_eq, Nat.reduceAdd, Nat.reduceLT, Nat.reduceLeDiff, Nat.zero_add, Bool.not_true, Bool.not_false, Bool.not_eq_true, Bool.and_false, Bool.false_and, D.hole.injEq, ite_true, ite_false, if_true, if_false, reduceIte, Bool.false_eq_true, Nat.lt_add_one, reduceCtorEq, false_and, and_false, exists_false, exists_const, ne_eq, not_false_eq_true, true_or, or_true, or_false, false_or, ht7.on, on_book, List.length_map]
            have hx1 : 1 ≤ ls[r.toNat] ∧ ls[r.toNat] ≤ m.toNat := upto_mem (hp.mem_iff.mp (List.mem_append_right _ (List.getElem_mem _)))
            refine ⟨.inr (by rcases hq7' with rfl | rfl <;> decide), Nat.lt_of_le_of_lt (Nat.le_of_eq hul) (by rw [sizeLine_eq]; omega), ?_⟩
            have hab : absI (ls[r.toNat] * q7) = ls[r.toNat] := by
              rcases hq7' with rfl | rfl
              · rcases absI_cases (ls[r.toNat] * 1) with ⟨_, e⟩ | ⟨_, e⟩ <;> rw [e] <;> omega
              · rcases absI_cases (ls[r.toNat] * -1) with ⟨_, e⟩ | ⟨_, e⟩ <;> rw [e] <;> omega
            refine hnx _ ⟨t7, cs ++ [c9], fs ++ [f9], us ++ [ls[r.toNat] * q7], ls.eraseIdx r.toNat, .int (0 + (i : Nat)), .lst false (zs.map .int), .lst true (s8.map .int), d, ?_, ht7, by rw [List.length_append]; simp [hcl], by rw [List.length_append]; simp [hfl], ?_, ?_, ?_, by rw [List.length_append]; simp [hul]⟩
            · rw [show (cs ++ [c9]).map ilD = cs.map ilD ++ [.lst false (c9.map .int)] by rw [List.map_append]; rfl, show (fs ++ [f9]).map ilD = fs.map ilD ++ [.lst false (f9.map .int)] by rw [List.map_append]; rfl, show (us ++ [ls[r.toNat] * q7]).map D.int = us.map .int ++ [.int (ls[r.toNat] * q7)] by rw [List.map_append]; rfl, ← erase_map]
            · intro c hc'
              rcases List.mem_append.mp hc' with hc' | hc'
              · exact hc c hc'
              · rw [List.mem_singleton.mp hc']; omega
            · intro c hc'
              rcases List.mem_append.mp hc' with hc' | hc'
              · exact hf c hc'
              · rw [List.mem_singleton.mp hc']; omega
            · refine List.Perm.trans ?_ hp
              rw [List.map_append, List.append_assoc]
              refine List.Perm.append_left _ ?_
              show ([absI (ls[r.toNat] * q7)] ++ ls.eraseIdx r.toNat).Perm ls
              rw [hab]
              exact erase_perm hr2
  · rintro s ⟨t', cs, fs, us, ls, a, b, c, d, rfl, ht', hcl, hfl, hc, hf, hp, hul⟩
    rw [rangeD_len] at ht' hcl hfl hul
    simp (maxSteps := 2000000) only [x_callZ, x_enumS, x_minD, x_maxD, r_powW, r_mulW, x_izipM, x_glst, x_izip, iz_tup, iz_lst, x_lcV, x_par3, x_lz3, x_lstS, x_star, x_izip3, x_sumL, x_tru, x_rg2, x_metP, x_yes, lo_l, so_l, so_t, tr_int, x_clear, ex_plB, pb_causes, pb_clashes, pb_undone, on_book, x_iseq, is_tup, is_lst, x_seq, x_ifS, x_asg, x_par, x_for, x_gname, x_gnil, x_gcons, x_gtup, x_gixP, x_tup, x_lst, x_cons, x_nil, x_dK, x_op2, x_op1, x_opL, x_ret, x_mov, x_var, x_fz, x_c, x_next, x_drop, x_if, x_and, x_or, x_not, x_chain, x_tchain, x_tcmp, x_tval, x_tand, x_tor, x_tnot, x_isi, x_call, x_args0, x_argsV, x_argsL, x_put0, x_putN, x_putS, x_evN, x_evE, x_ev0, x_evC, x_atN, x_atD, x_metN, x_pn, x_ps, x_sl, x_rg1, x_orT, x_lrg2, x_endR, x_endN, x_outT, x_outF, x_out0, x_keyC, x_keyN, y_int, y_bl, y_str, y_non, y_tup, y_lst, y_frl, y_nil, y_cons, ats_nil, ats_cons, onAt_0, onAt_s, on_tape, on_int, on_str, on_bl, on_non, on_tup, on_lst, on_hole, on_frl, true_and, and_true, and_assoc, List.getElem?_cons_zero, List.getElem?_cons_succ, Option.some.injEq, exists_and_left, exists_eq_left', exists_eq_left, exists_eq_right, exists_eq_right', tape_left, tape_spot, tape_cells, set_spot, set_left, r_int, r_mod, r_fdiv, r_lt, r_le, r_gt, r_ge, r_eq, r_ne, r_eqS, r_neS, r_add, r_addL, r_sub, r_mul, r_mulL, r_pow, r_intB, r_abs, r_neg, r_lenL, r_lenT, r_lenF, r_append, r_popAt, r_extend, r_tyL, r_min, fz_fz, fzL_fz, List.all_cons, List.all_nil, Bool.and_true, Bool.true_and, D.tup.injEq, D.int.injEq, D.bl.injEq, D.str.injEq, D.lst.injEq, List.cons.injEq, List.length_cons, List.length_nil, ex_plN, List.set_cons_succ, List.set_cons_zero, decide_eq_true_eq, Nat.reduceAdd, Nat.reduceLT, Nat.reduceLeDiff, Nat.zero_add, Bool.not_true, Bool.not_false, Bool.not_eq_true, Bool.and_false, Bool.false_and, D.hole.injEq, ite_true, ite_false, if_true, if_false, reduceIte, Bool.false_eq_true, Nat.lt_add_one, reduceCtorEq, false_and, and_false, exists_false, exists_const, ne_eq, not_false_eq_true, true_or, or_true, or_false, false_or, on_book]
    refine hR _ _ ⟨true, true, true, true, cs, fs, us, rfl, hcl, hfl, by omega, hc, hf, ?_⟩ (ht'.mono (by omega))
    have hl0 : ls = [] := by
      have := hp.length_eq
      rw [List.length_append, List.length_map, upto_len] at this
      exact List.length_eq_zero_iff.mp (by omega)
    subst hl0
    rw [List.append_nil] at hp
    exact hp
end Q

namespace Q
open PySem PySem.Spec PyProof.Rows L2 M Z3
theorem opP_undone {i : Nat} {s : DS} {Q : D → DS → Prop} {o o1 : Bool} {xs : List D} {a b : D} (hd : s[i]? = some (bookX o a b (.lst o1 xs))) (q : Q (.int xs.length) s) : wopP o_len (plIx (plN i) (.c (.str "undone"))) s Q := by
  refine ex_plB.mpr ⟨_, hd, pb_undone.mpr ⟨rfl, ?_⟩⟩
  exact ⟨_, rfl, q⟩
def flipI (zs : List Int) (j u : Int) : Int := if j ∈ zs then 0 - u else u
theorem absI_flip {zs : List Int} {j u : Int} : absI (flipI zs j u) = absI u := by
  unfold flipI
  split
  · rcases absI_cases (0 - u) with ⟨_, e⟩ | ⟨_, e⟩ <;> rcases absI_cases u with ⟨_, e'⟩ | ⟨_, e'⟩ <;> rw [e, e'] <;> omega
  · rfl
theorem upto_sorted (k : Nat) : (upto k).Pairwise (· ≤ ·) := by
  unfold upto
  rw [List.pairwise_map]
  exact List.pairwise_lt_range.imp fun h => by omega
theorem sort_upto {k : Nat} {σ : List Int} (h : (σ.map absI).Perm (upto k)) : Spot k (σ.mergeSort fun i j => decide (absI i ≤ absI j)) := by
  unfold Spot
  refine List.Perm.eq_of_pairwise (le := (· ≤ ·)) (fun a b _ _ h1 h2 => by omega) ?_ (upto_sorted k) (((List.mergeSort_perm _ _).map absI).trans h)
  rw [List.pairwise_map]
  refine (List.pairwise_mergeSort (fun a b c h1 h2 => ?_) (fun a b => ?_) σ).imp fun h => of_decide_eq_true h
  · have := of_decide_eq_true h1
    have := of_decide_eq_true h2
    exact decide_eq_true (by omega)
  · rcases Int.le_total (absI a) (absI b) with h | h
    · rw [decide_eq_true h, Bool.true_or]
    · rw [decide_eq_true h, Bool.or_true]
theorem spot_sorted {k : Nat} {us zs : List Int} (hp : (us.map absI).Perm (upto k)) (hul : us.length = k) : Spot k (((List.range k).map fun (j : Nat) => flipI zs (0 + (j : Int)) (us.getD (0 + (j : Int)).toNat 0)).mergeSort fun i j => decide (absI i ≤ absI j)) := by
  refine sort_upto ?_
  have e : ((List.range k).map fun (j : Nat) => flipI zs (0 + (j : Int)) (us.getD (0 + (j : Int)).toNat 0)).map absI = us.map absI := by
    rw [List.map_map]
    apply List.ext_getElem
    · rw [List.length_map, List.length_map, List.length_range, hul]
    · intro i h1 h2
      rw [List.getElem_map, List.getElem_map, List.getElem_range]
      show absI (flipI _ _ _) = _
      rw [absI_flip, show (0 + (i : Int)).toNat = i by omega, List.getD_eq_getElem?_getD, List.getElem?_eq_getElem (by rw [List.length_map] at h2; exact h2), Option.getD_some]
  rw [e]
  exact hp
theorem wp_spot : ∀ ds R, ds.length = 2 → S__law_spot ds R → w__law_spot (endsB [true, true] R) (startD 2 5 ds) := by
  rintro ds R hl ⟨t, b, k, n, rfl, ⟨o, o1, o2, o3, cs, fs, us, rfl, hcl, hfl, hk, hc, hf, hp⟩, ht, hR⟩
  have hul : us.length = k := by
    have := hp.length_eq
    rw [List.length_map, upto_len] at this
    exact this
  have st : startD 2 5 [t, bookX o (.lst o1 (cs.map ilD)) (.lst o2 (fs.map ilD)) (.lst o3 (us.map .int))] = [t, bookX o (.lst o1 (cs.map ilD)) (.lst o2 (fs.map ilD)) (.lst o3 (us.map .int)), .off, .off, .off] := rfl
  rw [st]
  unfold w__law_spot
  simp (maxSteps := 2000000) only [x_callZ, x_enumS, x_minD, x_maxD, r_powW, r_mulW, x_izipM, x_glst, x_izip, iz_tup, iz_lst, x_lcV, x_par3, x_lz3, x_lstS, x_star, x_izip3, x_sumL, x_tru, x_rg2, x_metP, x_yes, lo_l, so_l, so_t, tr_int, x_clear, ex_plB, pb_causes, pb_clashes, pb_undone, on_book, x_iseq, is_tup, is_lst, x_seq, x_ifS, x_asg, x_par, x_for, x_gname, x_gnil, x_gcons, x_gtup, x_gixP, x_tup, x_lst, x_cons, x_nil, x_dK, x_op2, x_op1, x_opL, x_ret, x_mov, x_var, x_fz, x_c, x_next, x_drop, x_if, x_and, x_or, x_not, x_chain, x_tchain, x_tcmp, x_tval, x_tand, x_tor, x_tnot, x_isi, x_call, x_args0, x_argsV, x_argsL, x_put0, x_putN, x_putS, x_evN, x_evE, x_ev0, x_evC, x_atN, x_atD, x_metN, x_pn, x_ps, x_sl, x_rg1, x_orT, x_lrg2, x_endR, x_endN, x_outT, x_outF, x_out0, x_keyC, x_keyN, y_int, y_bl, y_str, y_non, y_tup, y_lst, y_frl, y_nil, y_cons, ats_nil, ats_cons, onAt_0, onAt_s, on_tape, on_int, on_str, on_bl, on_non, on_tup, on_lst, on_hole, on_frl, true_and, and_true, and_assoc, List.getElem?_cons_zero, List.getElem?_cons_succ, Option.some.injEq, exists_and_left, exists_eq_left', exists_eq_left, exists_eq_right, exists_eq_right', tape_left, tape_spot, tape_cells, set_spot, set_left, r_int, r_mod, r_fdiv, r_lt, r_le, r_gt, r_ge, r_eq, r_ne, r_eqS, r_neS, r_add, r_addL, r_sub, r_mul, r_mulL, r_pow, r_intB, r_abs, r_neg, r_lenL, r_lenT, r_lenF, r_append, r_popAt, r_extend, r_tyL, r_min, fz_fz, fzL_fz, List.all_cons, List.all_nil, Bool.and_true, Bool.true_and, D.tup.injEq, D.int.injEq, D.bl.injEq, D.str.injEq, D.lst.injEq, List.cons.injEq, List.length_cons, List.length_nil, ex_plN, List.set_cons_succ, List.set_cons_zero, decide_eq_true_eq, Nat.reduceAdd, Nat.reduceLT, Nat.reduceLeDiff, Nat.zero_add, Bool.not_true, Bool.not_false, Bool.not_eq_true, Bool.and_false, Bool.false_and, D.hole.injEq, ite_true, ite_false, if_true, if_false, reduceIte, Bool.false_eq_true, Nat.lt_add_one, reduceCtorEq, false_and, and_false, exists_false, exists_const, ne_eq, not_false_eq_true, true_or, or_true, or_false, false_or, ht.on, on_book]
  intro v1 v2 v3
  refine ⟨t, o1, cs, o2, fs, n, rfl, ht.mono (by omega), by omega, by omega, hc, hf, fun zs t1 hzl hzs ht1 => ?_⟩
  simp (maxSteps := 2000000) only [x_callZ, x_enumS, x_minD, x_maxD, r_powW, r_mulW, x_izipM, x_glst, x_izip, iz_tup, iz_lst, x_lcV, x_par3, x_lz3, x_lstS, x_star, x_izip3, x_sumL, x_tru, x_rg2, x_metP, x_yes, lo_l, so_l, so_t, tr_int, x_clear, ex_plB, pb_causes, pb_clashes, pb_undone, on_book, x_iseq, is_tup, is_lst, x_seq, x_ifS, x_asg, x_par, x_for, x_gname, x_gnil, x_gcons, x_gtup, x_gixP, x_tup, x_lst, x_cons, x_nil, x_dK, x_op2, x_op1, x_opL, x_ret, x_mov, x_var, x_fz, x_c, x_next, x_drop, x_if, x_and, x_or, x_not, x_chain, x_tchain, x_tcmp, x_tval, x_tand, x_tor, x_tnot, x_isi, x_call, x_args0, x_argsV, x_argsL, x_put0, x_putN, x_putS, x_evN, x_evE, x_ev0, x_evC, x_atN, x_atD, x_metN, x_pn, x_ps, x_sl, x_rg1, x_orT, x_lrg2, x_endR, x_endN, x_outT, x_outF, x_out0, x_keyC, x_keyN, y_int, y_bl, y_str, y_non, y_tup, y_lst, y_frl, y_nil, y_cons, ats_nil, ats_cons, onAt_0, onAt_s, on_tape, on_int, on_str, on_bl, on_non, on_tup, on_lst, on_hole, on_frl, true_and, and_true, and_assoc, List.getElem?_cons_zero, List.getElem?_cons_succ, Option.some.injEq, exists_and_left, exists_eq_left', exists_eq_left, exists_eq_right, exists_eq_right', tape_left, tape_spot, tape_cells, set_spot, set_left, r_int, r_mod, r_fdiv, r_lt, r_le, r_gt, r_ge, r_eq, r_ne, r_eqS, r_neS, r_add, r_addL, r_sub, r_mul, r_mulL, r_pow, r_intB, r_abs, r_neg, r_lenL, r_lenT, r_lenF, r_append, r_popAt, r_extend, r_tyL, r_min, fz_fz, fzL_fz, List.all_cons, List.all_nil, Bool.and_true, Bool.true_and, D.tup.injEq, D.int.injEq, D.bl.injEq, D.str.injEq, D.lst.injEq, List.cons.injEq, List.length_cons, List.length_nil, ex_plN, List.set_cons_succ, List.set_cons_zero, decide_eq_true_eq, Nat.reduceAdd, Nat.reduceLT, Nat.reduceLeDiff, Nat.zero_add, Bool.not_true, Bool.not_false, Bool.not_eq_true, Bool.and_false, Bool.false_and, D.hole.injEq, ite_true, ite_false, if_true, if_false, reduceIte, Bool.false_eq_true, Nat.lt_add_one, reduceCtorEq, false_and, and_false, exists_false, exists_const, ne_eq, not_false_eq_true, true_or, or_true, or_false, false_or, ht1.on, on_book, fzL_ints, List.length_map]
  refine opP_undone (o := o) (o1 := o3) (xs := us.map .int) rfl ?_
  rw [List.length_map, hul]
  simp (maxSteps := 2000000) only [x_callZ, x_enumS, x_minD, x_maxD, r_powW, r_mulW, x_izipM, x_glst, x_izip, iz_tup, iz_lst, x_lcV, x_par3, x_lz3, x_lstS, x_star, x_izip3, x_sumL, x_tru, x_rg2, x_metP, x_yes, lo_l, so_l, so_t, tr_int, x_clear, ex_plB, pb_causes, pb_clashes, pb_undone, on_book, x_iseq, is_tup, is_lst, x_seq, x_ifS, x_asg, x_par, x_for, x_gname, x_gnil, x_gcons, x_gtup, x_gixP, x_tup, x_lst, x_cons, x_nil, x_dK, x_op2, x_op1, x_opL, x_ret, x_mov, x_var, x_fz, x_c, x_next, x_drop, x_if, x_and, x_or, x_not, x_chain, x_tchain, x_tcmp, x_tval, x_tand, x_tor, x_tnot, x_isi, x_call, x_args0, x_argsV, x_argsL, x_put0, x_putN, x_putS, x_evN, x_evE, x_ev0, x_evC, x_atN, x_atD, x_metN, x_pn, x_ps, x_sl, x_rg1, x_orT, x_lrg2, x_endR, x_endN, x_outT, x_outF, x_out0, x_keyC, x_keyN, y_int, y_bl, y_str, y_non, y_tup, y_lst, y_frl, y_nil, y_cons, ats_nil, ats_cons, onAt_0, onAt_s, on_tape, on_int, on_str, on_bl, on_non, on_tup, on_lst, on_hole, on_frl, true_and, and_true, and_assoc, List.getElem?_cons_zero, List.getElem?_cons_succ, Option.some.injEq, exists_and_left, exists_eq_left', exists_eq_left, exists_eq_right, exists_eq_right', tape_left, tape_spot, tape_cells, set_spot, set_left, r_int, r_mod, r_fdiv, r_lt, r_le, r_gt, r_ge, r_eq, r_ne, r_eqS, r_neS, r_add, r_addL, r_sub, r_mul, r_mulL, r_pow, r_intB, r_abs, r_neg, r_lenL, r_lenT, r_lenF, r_append, r_popAt, r_extend, r_tyL, r_min, fz_fz, fzL_fz, List.all_cons, List.all_nil, Bool.and_true, Bool.true_and, D.tup.injEq, D.int.injEq, D.bl.injEq, D.str.injEq, D.lst.injEq, List.cons.injEq, List.length_cons, List.length_nil, ex_plN, List.set_cons_succ, List.set_cons_zero, decide_eq_true_eq, Nat.reduceAdd, Nat.reduceLT, Nat.reduceLeDiff, Nat.zero_add, Bool.not_true, Bool.not_false, Bool.not_eq_true, Bool.and_false, Bool.false_and, D.hole.injEq, ite_true, ite_false, if_true, if_false, reduceIte, Bool.false_eq_true, Nat.lt_add_one, reduceCtorEq, false_and, and_false, exists_false, exists_const, ne_eq, not_false_eq_true, true_or, or_true, or_false, false_or, on_book]
  refine ⟨by omega, by omega, sizeOk (by rw [rangeD_len]; omega), by decide, ?_⟩
  refine lc_fun (fun d => match d with | .int j => .int (flipI zs j (us.getD j.toNat 0)) | d => d) (fun s => s = [t1, bookX o (.lst o1 (cs.map ilD)) (.lst o2 (fs.map ilD)) (.lst o3 (us.map .int)), .lst true (zs.map .int), .off, .off]) rfl ?_ ?_
  · rintro j x hx s rfl K hK
    obtain ⟨hj, rfl⟩ := rangeD_at hx
    obtain ⟨u, hu, e1, e2⟩ := atI_map (f := D.int) (xs := us) (i := 0 + (j : Nat)) (by omega) (by omega)
    have hg : us.getD (0 + (j : Int)).toNat 0 = u := by rw [List.getD_eq_getElem?_getD, e2]; rfl
    simp (maxSteps := 2000000) only [x_callZ, x_enumS, x_minD, x_maxD, r_powW, r_mulW, x_izipM, x_glst, x_izip, iz_tup, iz_lst, x_lcV, x_par3, x_lz3, x_lstS, x_star, x_izip3, x_sumL, x_tru, x_rg2, x_metP, x_yes, lo_l, so_l, so_t, tr_int, x_clear, ex_plB, pb_causes, pb_clashes, pb_undone, on_book, x_iseq, is_tup, is_lst, x_seq, x_ifS, x_asg, x_par, x_for, x_gname, x_gnil, x_gcons, x_gtup, x_gixP, x_tup, x_lst, x_cons, x_nil, x_dK, x_op2, x_op1, x_opL, x_ret, x_mov, x_var, x_fz, x_c, x_next, x_drop, x_if, x_and, x_or, x_not, x_chain, x_tchain, x_tcmp, x_tval, x_tand, x_tor, x_tnot, x_isi, x_call, x_args0, x_argsV, x_argsL, x_put0, x_putN, x_putS, x_evN, x_evE, x_ev0, x_evC, x_atN, x_atD, x_metN, x_pn, x_ps, x_sl, x_rg1, x_orT, x_lrg2, x_endR, x_endN, x_outT, x_outF, x_out0, x_keyC, x_keyN, y_int, y_bl, y_str, y_non, y_tup, y_lst, y_frl, y_nil, y_cons, ats_nil, ats_cons, onAt_0, onAt_s, on_tape, on_int, on_str, on_bl, on_non, on_tup, on_lst, on_hole, on_frl, true_and, and_true, and_assoc, List.getElem?_cons_zero, List.getElem?_cons_succ, Option.some.injEq, exists_and_left, exists_eq_left', exists_eq_left, exists_eq_right, exists_eq_right', tape_left, tape_spot, tape_cells, set_spot, set_left, r_int, r_mod, r_fdiv, r_lt, r_le, r_gt, r_ge, r_eq, r_ne, r_eqS, r_neS, r_add, r_addL, r_sub, r_mul, r_mulL, r_pow, r_intB, r_abs, r_neg, r_lenL, r_lenT, r_lenF, r_append, r_popAt, r_extend, r_tyL, r_min, fz_fz, fzL_fz, List.all_cons, List.all_nil, Bool.and_true, Bool.true_and, D.tup.injEq, D.int.injEq, D.bl.injEq, D.str.injEq, D.lst.injEq, List.cons.injEq, List.length_cons, List.length_nil, ex_plN, List.set_cons_succ, List.set_cons_zero, decide_eq_true_eq, Nat.reduceAdd, Nat.reduceLT, Nat.reduceLeDiff, Nat.zero_add, Bool.not_true, Bool.not_false, Bool.not_eq_true, Bool.and_false, Bool.false_and, D.hole.injEq, ite_true, ite_false, if_true, if_false, reduceIte, Bool.false_eq_true, Nat.lt_add_one, reduceCtorEq, false_and, and_false, exists_false, exists_const, ne_eq, not_false_eq_true, true_or, or_true, or_false, false_or]
    rw [r_in]
    simp (maxSteps := 2000000) only [x_callZ, x_enumS, x_minD, x_maxD, r_powW, r_mulW, x_izipM, x_glst, x_izip, iz_tup, iz_lst, x_lcV, x_par3, x_lz3, x_lstS, x_star, x_izip3, x_sumL, x_tru, x_rg2, x_metP, x_yes, lo_l, so_l, so_t, tr_int, x_clear, ex_plB, pb_causes, pb_clashes, pb_undone, on_book, x_iseq, is_tup, is_lst, x_seq, x_ifS, x_asg, x_par, x_for, x_gname, x_gnil, x_gcons, x_gtup, x_gixP, x_tup, x_lst, x_cons, x_nil, x_dK, x_op2, x_op1, x_opL, x_ret, x_mov, x_var, x_fz, x_c, x_next, x_drop, x_if, x_and, x_or, x_not, x_chain, x_tchain, x_tcmp, x_tval, x_tand, x_tor, x_tnot, x_isi, x_call, x_args0, x_argsV, x_argsL, x_put0, x_putN, x_putS, x_evN, x_evE, x_ev0, x_evC, x_atN, x_atD, x_metN, x_pn, x_ps, x_sl, x_rg1, x_orT, x_lrg2, x_endR, x_endN, x_outT, x_outF, x_out0, x_keyC, x_keyN, y_int, y_bl, y_str, y_non, y_tup, y_lst, y_frl, y_nil, y_cons, ats_nil, ats_cons, onAt_0, onAt_s, on_tape, on_int, on_str, on_bl, on_non, on_tup, on_lst, on_hole, on_frl, true_and, and_true, and_assoc, List.getElem?_cons_zero, List.getElem?_cons_succ, Option.some.injEq, exists_and_left, exists_eq_left', exists_eq_left, exists_eq_right, exists_eq_right', tape_left, tape_spot, tape_cells, set_spot, set_left, r_int, r_mod, r_fdiv, r_lt, r_le, r_gt, r_ge, r_eq, r_ne, r_eqS, r_neS, r_add, r_addL, r_sub, r_mul, r_mulL, r_pow, r_intB, r_abs, r_neg, r_lenL, r_lenT, r_lenF, r_append, r_popAt, r_extend, r_tyL, r_min, fz_fz, fzL_fz, List.all_cons, List.all_nil, Bool.and_true, Bool.true_and, D.tup.injEq, D.int.injEq, D.bl.injEq, D.str.injEq, D.lst.injEq, List.cons.injEq, List.length_cons, List.length_nil, ex_plN, List.set_cons_succ, List.set_cons_zero, decide_eq_true_eq, Nat.reduceAdd, Nat.reduceLT, Nat.reduceLeDiff, Nat.zero_add, Bool.not_true, Bool.not_false, Bool.not_eq_true, Bool.and_false, Bool.false_and, D.hole.injEq, ite_true, ite_false, if_true, if_false, reduceIte, Bool.false_eq_true, Nat.lt_add_one, reduceCtorEq, false_and, and_false, exists_false, exists_const, ne_eq, not_false_eq_true, true_or, or_true, or_false, false_or]
    have hK' := hK [t1, bookX o (.lst o1 (cs.map ilD)) (.lst o2 (fs.map ilD)) (.lst o3 (us.map .int)), .lst true (zs.map .int), .off, .int (0 + (j : Nat))] rfl
    simp only [hg, flipI] at hK'
    split
    · rename_i hin
      rw [if_pos hin] at hK'
      refine plv_undone (o := o) (o1 := o3) (xs := us.map .int) (x := .int u) (n := 0 + (j : Nat)) rfl rfl e1 rfl rfl ?_
      simp (maxSteps := 2000000) only [x_callZ, x_enumS, x_minD, x_maxD, r_powW, r_mulW, x_izipM, x_glst, x_izip, iz_tup, iz_lst, x_lcV, x_par3, x_lz3, x_lstS, x_star, x_izip3, x_sumL, x_tru, x_rg2, x_metP, x_yes, lo_l, so_l, so_t, tr_int, x_clear, ex_plB, pb_causes, pb_clashes, pb_undone, on_book, x_iseq, is_tup, is_lst, x_seq, x_ifS, x_asg, x_par, x_for, x_gname, x_gnil, x_gcons, x_gtup, x_gixP, x_tup, x_lst, x_cons, x_nil, x_dK, x_op2, x_op1, x_opL, x_ret, x_mov, x_var, x_fz, x_c, x_next, x_drop, x_if, x_and, x_or, x_not, x_chain, x_tchain, x_tcmp, x_tval, x_tand, x_tor, x_tnot, x_isi, x_call, x_args0, x_argsV, x_argsL, x_put0, x_putN, x_putS, x_evN, x_evE, x_ev0, x_evC, x_atN, x_atD, x_metN, x_pn, x_ps, x_sl, x_rg1, x_orT, x_lrg2, x_endR, x_endN, x_outT, x_outF, x_out0, x_keyC, x_keyN, y_int, y_bl, y_str, y_non, y_tup, y_lst, y_frl, y_nil, y_cons, ats_nil, ats_cons, onAt_0, onAt_s, on_tape, on_int, on_str, on_bl, on_non, on_tup, on_lst, on_hole, on_frl, true_and, and_true, and_assoc, List.getElem?_cons_zero, List.getElem?_cons_succ, Option.some.injEq, exists_and_left, exists_eq_left', exists_eq_left, exists_eq_right, exists_eq_right', tape_left, tape_spot, tape_cells, set_spot, set_left, r_int, r_mod, r_fdiv, r_lt, r_le, r_gt, r_ge, r_eq, r_ne, r_eqS, r_neS, r_add, r_addL, r_sub, r_mul, r_mulL, r_pow, r_intB, r_abs, r_neg, r_lenL, r_lenT, r_lenF, r_append, r_popAt, r_extend, r_tyL, r_min, fz_fz, fzL_fz, List.all_cons, List.all_nil, Bool.and_true, Bool.true_and, D.tup.injEq, D.int.injEq, D.bl.injEq, D.str.injEq, D.lst.injEq, List.cons.injEq, List.length_cons, List.length_nil, ex_plN, List.set_cons_succ, List.set_cons_zero, decide_eq_true_eq, Nat.reduceAdd, Nat.reduceLT, Nat.reduceLeDiff, Nat.zero_add, Bool.not_true, Bool.not_false, Bool.not_eq_true, Bool.and_false, Bool.false_and, D.hole.injEq, ite_true, ite_false, if_true, if_false, reduceIte, Bool.false_eq_true, Nat.lt_add_one, reduceCtorEq, false_and, and_false, exists_false, exists_const, ne_eq, not_false_eq_true, true_or, or_true, or_false, false_or]
      exact hK'
    · rename_i hin
      rw [if_neg hin] at hK'
      exact plv_undone (o := o) (o1 := o3) (xs := us.map .int) (x := .int u) (n := 0 + (j : Nat)) rfl rfl e1 rfl rfl hK'
  · rintro s rfl
    have e0 : (rangeD 0 (k : Int).toNat).map (fun d => match d with | .int j => .int (flipI zs j (us.getD j.toNat 0)) | d => d) = ((List.range k).map fun (j : Nat) => flipI zs (0 + (j : Int)) (us.getD (0 + (j : Int)).toNat 0)).map D.int := by
      unfold rangeD
      rw [List.map_map, List.map_map]
      rfl
    rw [e0]
    have hs := spot_sorted (k := k) (zs := zs) hp hul
    generalize ((List.range k).map fun (j : Nat) => flipI zs (0 + (j : Int)) (us.getD (0 + (j : Int)).toNat 0)) = σ0 at hs
    simp only [restore, unset, x_callZ, x_enumS, x_minD, x_maxD, r_powW, r_mulW, x_izipM, x_glst, x_izip, iz_tup, iz_lst, x_lcV, x_par3, x_lz3, x_lstS, x_star, x_izip3, x_sumL, x_tru, x_rg2, x_metP, x_yes, lo_l, so_l, so_t, tr_int, x_clear, ex_plB, pb_causes, pb_clashes, pb_undone, on_book, x_iseq, is_tup, is_lst, x_seq, x_ifS, x_asg, x_par, x_for, x_gname, x_gnil, x_gcons, x_gtup, x_gixP, x_tup, x_lst, x_cons, x_nil, x_dK, x_op2, x_op1, x_opL, x_ret, x_mov, x_var, x_fz, x_c, x_next, x_drop, x_if, x_and, x_or, x_not, x_chain, x_tchain, x_tcmp, x_tval, x_tand, x_tor, x_tnot, x_isi, x_call, x_args0, x_argsV, x_argsL, x_put0, x_putN, x_putS, x_evN, x_evE, x_ev0, x_evC, x_atN, x_atD, x_metN, x_pn, x_ps, x_sl, x_rg1, x_orT, x_lrg2, x_endR, x_endN, x_outT, x_outF, x_out0, x_keyC, x_keyN, y_int, y_bl, y_str, y_non, y_tup, y_lst, y_frl, y_nil, y_cons, ats_nil, ats_cons, onAt_0, onAt_s, on_tape, on_int, on_str, on_bl, on_non, on_tup, on_lst, on_hole, on_frl, true_and, and_true, and_assoc, List.getElem?_cons_zero, List.getElem?_cons_succ, Option.some.injEq, exists_and_left, exists_eq_left', exists_eq_left, exists_eq_right, exists_eq_right', tape_left, tape_spot, tape_cells, set_spot, set_left, r_int, r_mod, r_fdiv, r_lt, r_le, r_gt, r_ge, r_eq, r_ne, r_eqS, r_neS, r_add, r_addL, r_sub, r_mul, r_mulL, r_pow, r_intB, r_abs, r_neg, r_lenL, r_lenT, r_lenF, r_append, r_popAt, r_extend, r_tyL, r_min, fz_fz, fzL_fz, List.all_cons, List.all_nil, Bool.and_true, Bool.true_and, D.tup.injEq, D.int.injEq, D.bl.injEq, D.str.injEq, D.lst.injEq, List.cons.injEq, List.length_cons, List.length_nil, ex_plN, List.set_cons_succ, List.set_cons_zero, decide_eq_true_eq, Nat.reduceAdd, Nat.reduceLT, Nat.reduceLeDiff, Nat.zero_add, Bool.not_true, Bool.not_false, Bool.not_eq_true, Bool.and_false, Bool.false_and, D.hole.injEq, ite_true, ite_false, if_true, if_false, reduceIte, Bool.false_eq_true, Nat.lt_add_one, reduceCtorEq, false_and, and_false, exists_false, exists_const, ne_eq, not_false_eq_true, true_or, or_true, or_false, false_or, List.getD_eq_getElem?_getD, Option.getD_some, ht1.on, on_book, fzL_ints]
    refine ⟨σ0, rfl, ?_⟩
    simp (maxSteps := 2000000) only [x_callZ, x_enumS, x_minD, x_maxD, r_powW, r_mulW, x_izipM, x_glst, x_izip, iz_tup, iz_lst, x_lcV, x_par3, x_lz3, x_lstS, x_star, x_izip3, x_sumL, x_tru, x_rg2, x_metP, x_yes, lo_l, so_l, so_t, tr_int, x_clear, ex_plB, pb_causes, pb_clashes, pb_undone, on_book, x_iseq, is_tup, is_lst, x_seq, x_ifS, x_asg, x_par, x_for, x_gname, x_gnil, x_gcons, x_gtup, x_gixP, x_tup, x_lst, x_cons, x_nil, x_dK, x_op2, x_op1, x_opL, x_ret, x_mov, x_var, x_fz, x_c, x_next, x_drop, x_if, x_and, x_or, x_not, x_chain, x_tchain, x_tcmp, x_tval, x_tand, x_tor, x_tnot, x_isi, x_call, x_args0, x_argsV, x_argsL, x_put0, x_putN, x_putS, x_evN, x_evE, x_ev0, x_evC, x_atN, x_atD, x_metN, x_pn, x_ps, x_sl, x_rg1, x_orT, x_lrg2, x_endR, x_endN, x_outT, x_outF, x_out0, x_keyC, x_keyN, y_int, y_bl, y_str, y_non, y_tup, y_lst, y_frl, y_nil, y_cons, ats_nil, ats_cons, onAt_0, onAt_s, on_tape, on_int, on_str, on_bl, on_non, on_tup, on_lst, on_hole, on_frl, true_and, and_true, and_assoc, List.getElem?_cons_zero, List.getElem?_cons_succ, Option.some.injEq, exists_and_left, exists_eq_left', exists_eq_left, exists_eq_right, exists_eq_right', tape_left, tape_spot, tape_cells, set_spot, set_left, r_int, r_mod, r_fdiv, r_lt, r_le, r_gt, r_ge, r_eq, r_ne, r_eqS, r_neS, r_add, r_addL, r_sub, r_mul, r_mulL, r_pow, r_intB, r_abs, r_neg, r_lenL, r_lenT, r_lenF, r_append, r_popAt, r_extend, r_tyL, r_min, fz_fz, fzL_fz, List.all_cons, List.all_nil, Bool.and_true, Bool.true_and, D.tup.injEq, D.int.injEq, D.bl.injEq, D.str.injEq, D.lst.injEq, List.cons.injEq, List.length_cons, List.length_nil, ex_plN, List.set_cons_succ, List.set_cons_zero, decide_eq_true_eq, Nat.reduceAdd, Nat.reduceLT, Nat.reduceLeDiff, Nat.zero_add, Bool.not_true, Bool.not_false, Bool.not_eq_true, Bool.and_false, Bool.false_and, D.hole.injEq, ite_true, ite_false, if_true, if_false, reduceIte, Bool.false_eq_true, Nat.lt_add_one, reduceCtorEq, false_and, and_false, exists_false, exists_const, ne_eq, not_false_eq_true, true_or, or_true, or_false, false_or]
    exact (r_tuple (fzL_ints _)).mpr (hR _ _ hs ht1)
end Q

namespace Q
open PySem PySem.Spec PyProof.Rows L2 M Z3
theorem wp_stand : ∀ ds R, ds.length = 3 → S__law_stand ds R → w__law_stand (endsB [true, true, false] R) (startD 3 7 ds) := by
  rintro ds R hl ⟨t, b, m, k, n, rfl, hb, hm0, hm1, ht, hR⟩
  have st : startD 3 7 [t, b, .int m] = [t, b, .int m, .off, .off, .off, .off] := rfl
  rw [st]
  have ob : on b = true := by obtain ⟨_, _, _, _, _, _, _, rfl, _⟩ := hb; rfl
  unfold w__law_stand
  simp (maxSteps := 2000000) only [x_callZ, x_enumS, x_minD, x_maxD, r_powW, r_mulW, x_izipM, x_glst, x_izip, iz_tup, iz_lst, x_lcV, x_par3, x_lz3, x_lstS, x_star, x_izip3, x_sumL, x_tru, x_rg2, x_metP, x_yes, lo_l, so_l, so_t, tr_int, x_clear, ex_plB, pb_causes, pb_clashes, pb_undone, on_book, x_iseq, is_tup, is_lst, x_seq, x_ifS, x_asg, x_par, x_for, x_gname, x_gnil, x_gcons, x_gtup, x_gixP, x_tup, x_lst, x_cons, x_nil, x_dK, x_op2, x_op1, x_opL, x_ret, x_mov, x_var, x_fz, x_c, x_next, x_drop, x_if, x_and, x_or, x_not, x_chain, x_tchain, x_tcmp, x_tval, x_tand, x_tor, x_tnot, x_isi, x_call, x_args0, x_argsV, x_argsL, x_put0, x_putN, x_putS, x_evN, x_evE, x_ev0, x_evC, x_atN, x_atD, x_metN, x_pn, x_ps, x_sl, x_rg1, x_orT, x_lrg2, x_endR, x_endN, x_outT, x_outF, x_out0, x_keyC, x_keyN, y_int, y_bl, y_str, y_non, y_tup, y_lst, y_frl, y_nil, y_cons, ats_nil, ats_cons, onAt_0, onAt_s, on_tape, on_int, on_str, on_bl, on_non, on_tup, on_lst, on_hole, on_frl, true_and, and_true, and_assoc, List.getElem?_cons_zero, List.getElem?_cons_succ, Option.some.injEq, exists_and_left, exists_eq_left', exists_eq_left, exists_eq_right, exists_eq_right', tape_left, tape_spot, tape_cells, set_spot, set_left, r_int, r_mod, r_fdiv, r_lt, r_le, r_gt, r_ge, r_eq, r_ne, r_eqS, r_neS, r_add, r_addL, r_sub, r_mul, r_mulL, r_pow, r_intB, r_abs, r_neg, r_lenL, r_lenT, r_lenF, r_append, r_popAt, r_extend, r_tyL, r_min, fz_fz, fzL_fz, List.all_cons, List.all_nil, Bool.and_true, Bool.true_and, D.tup.injEq, D.int.injEq, D.bl.injEq, D.str.injEq, D.lst.injEq, List.cons.injEq, List.length_cons, List.length_nil, ex_plN, List.set_cons_succ, List.set_cons_zero, decide_eq_true_eq, Nat.reduceAdd, Nat.reduceLT, Nat.reduceLeDiff, Nat.zero_add, Bool.not_true, Bool.not_false, Bool.not_eq_true, Bool.and_false, Bool.false_and, D.hole.injEq, ite_true, ite_false, if_true, if_false, reduceIte, Bool.false_eq_true, Nat.lt_add_one, reduceCtorEq, false_and, and_false, exists_false, exists_const, ne_eq, not_false_eq_true, true_or, or_true, or_false, false_or, ht.on, ob]
  refine ⟨by decide, by decide, by decide, by decide, ?_⟩
  refine lc_from (fun acc s => ∃ t' P, s = [t', b, .int m, .off, .off, .off, .off] ∧ acc = P.map spotD ∧ (∀ σ ∈ P, Spot k σ) ∧ Tape (n + 20000 - 100 * acc.length) t') ⟨t, [], rfl, rfl, by simp, ht⟩ ?_ ?_
  · rintro j x hx acc s hj ⟨t', P, rfl, rfl, hP, ht'⟩ K hK
    rw [List.length_map] at hj ht'
    obtain ⟨hj2, rfl⟩ := rangeD_at hx
    have hj3 : j < 2 := hj2
    simp (maxSteps := 2000000) only [x_callZ, x_enumS, x_minD, x_maxD, r_powW, r_mulW, x_izipM, x_glst, x_izip, iz_tup, iz_lst, x_lcV, x_par3, x_lz3, x_lstS, x_star, x_izip3, x_sumL, x_tru, x_rg2, x_metP, x_yes, lo_l, so_l, so_t, tr_int, x_clear, ex_plB, pb_causes, pb_clashes, pb_undone, on_book, x_iseq, is_tup, is_lst, x_seq, x_ifS, x_asg, x_par, x_for, x_gname, x_gnil, x_gcons, x_gtup, x_gixP, x_tup, x_lst, x_cons, x_nil, x_dK, x_op2, x_op1, x_opL, x_ret, x_mov, x_var, x_fz, x_c, x_next, x_drop, x_if, x_and, x_or, x_not, x_chain, x_tchain, x_tcmp, x_tval, x_tand, x_tor, x_tnot, x_isi, x_call, x_args0, x_argsV, x_argsL, x_put0, x_putN, x_putS, x_evN, x_evE, x_ev0, x_evC, x_atN, x_atD, x_metN, x_pn, x_ps, x_sl, x_rg1, x_orT, x_lrg2, x_endR, x_endN, x_outT, x_outF, x_out0, x_keyC, x_keyN, y_int, y_bl, y_str, y_non, y_tup, y_lst, y_frl, y_nil, y_cons, ats_nil, ats_cons, onAt_0, onAt_s, on_tape, on_int, on_str, on_bl, on_non, on_tup, on_lst, on_hole, on_frl, true_and, and_true, and_assoc, List.getElem?_cons_zero, List.getElem?_cons_succ, Option.some.injEq, exists_and_left, exists_eq_left', exists_eq_left, exists_eq_right, exists_eq_right', tape_left, tape_spot, tape_cells, set_spot, set_left, r_int, r_mod, r_fdiv, r_lt, r_le, r_gt, r_ge, r_eq, r_ne, r_eqS, r_neS, r_add, r_addL, r_sub, r_mul, r_mulL, r_pow, r_intB, r_abs, r_neg, r_lenL, r_lenT, r_lenF, r_append, r_popAt, r_extend, r_tyL, r_min, fz_fz, fzL_fz, List.all_cons, List.all_nil, Bool.and_true, Bool.true_and, D.tup.injEq, D.int.injEq, D.bl.injEq, D.str.injEq, D.lst.injEq, List.cons.injEq, List.length_cons, List.length_nil, ex_plN, List.set_cons_succ, List.set_cons_zero, decide_eq_true_eq, Nat.reduceAdd, Nat.reduceLT, Nat.reduceLeDiff, Nat.zero_add, Bool.not_true, Bool.not_false, Bool.not_eq_true, Bool.and_false, Bool.false_and, D.hole.injEq, ite_true, ite_false, if_true, if_false, reduceIte, Bool.false_eq_true, Nat.lt_add_one, reduceCtorEq, false_and, and_false, exists_false, exists_const, ne_eq, not_false_eq_true, true_or, or_true, or_false, false_or, ht'.on, ob]
    intro v1 v2
    refine ⟨t', b, k, n + 20000 - 100 * (j + 1), rfl, hb, ht'.mono (by omega), fun σ t1 hσ ht1 => ?_⟩
    simp (maxSteps := 2000000) only [x_callZ, x_enumS, x_minD, x_maxD, r_powW, r_mulW, x_izipM, x_glst, x_izip, iz_tup, iz_lst, x_lcV, x_par3, x_lz3, x_lstS, x_star, x_izip3, x_sumL, x_tru, x_rg2, x_metP, x_yes, lo_l, so_l, so_t, tr_int, x_clear, ex_plB, pb_causes, pb_clashes, pb_undone, on_book, x_iseq, is_tup, is_lst, x_seq, x_ifS, x_asg, x_par, x_for, x_gname, x_gnil, x_gcons, x_gtup, x_gixP, x_tup, x_lst, x_cons, x_nil, x_dK, x_op2, x_op1, x_opL, x_ret, x_mov, x_var, x_fz, x_c, x_next, x_drop, x_if, x_and, x_or, x_not, x_chain, x_tchain, x_tcmp, x_tval, x_tand, x_tor, x_tnot, x_isi, x_call, x_args0, x_argsV, x_argsL, x_put0, x_putN, x_putS, x_evN, x_evE, x_ev0, x_evC, x_atN, x_atD, x_metN, x_pn, x_ps, x_sl, x_rg1, x_orT, x_lrg2, x_endR, x_endN, x_outT, x_outF, x_out0, x_keyC, x_keyN, y_int, y_bl, y_str, y_non, y_tup, y_lst, y_frl, y_nil, y_cons, ats_nil, ats_cons, onAt_0, onAt_s, on_tape, on_int, on_str, on_bl, on_non, on_tup, on_lst, on_hole, on_frl, true_and, and_true, and_assoc, List.getElem?_cons_zero, List.getElem?_cons_succ, Option.some.injEq, exists_and_left, exists_eq_left', exists_eq_left, exists_eq_right, exists_eq_right', tape_left, tape_spot, tape_cells, set_spot, set_left, r_int, r_mod, r_fdiv, r_lt, r_le, r_gt, r_ge, r_eq, r_ne, r_eqS, r_neS, r_add, r_addL, r_sub, r_mul, r_mulL, r_pow, r_intB, r_abs, r_neg, r_lenL, r_lenT, r_lenF, r_append, r_popAt, r_extend, r_tyL, r_min, fz_fz, fzL_fz, List.all_cons, List.all_nil, Bool.and_true, Bool.true_and, D.tup.injEq, D.int.injEq, D.bl.injEq, D.str.injEq, D.lst.injEq, List.cons.injEq, List.length_cons, List.length_nil, ex_plN, List.set_cons_succ, List.set_cons_zero, decide_eq_true_eq, Nat.reduceAdd, Nat.reduceLT, Nat.reduceLeDiff, Nat.zero_add, Bool.not_true, Bool.not_false, Bool.not_eq_true, Bool.and_false, Bool.false_and, D.hole.injEq, ite_true, ite_false, if_true, if_false, reduceIte, Bool.false_eq_true, Nat.lt_add_one, reduceCtorEq, false_and, and_false, exists_false, exists_const, ne_eq, not_false_eq_true, true_or, or_true, or_false, false_or, ht1.on, ob]
    refine hK _ _ ⟨t1, P ++ [σ], rfl, by rw [List.map_append]; rfl, fun σ' h => ?_, by rw [List.length_append]; exact ht1.mono (by simp; omega)⟩
    rcases List.mem_append.mp h with h | h
    · exact hP σ' h
    · rw [List.mem_singleton.mp h]; exact hσ
  · rintro acc s hl2 ⟨t', P, rfl, rfl, hP, ht'⟩
    rw [List.length_map] at hl2 ht'
    have hP2 : P.length = 2 := hl2
    simp only [restore, unset, x_callZ, x_enumS, x_minD, x_maxD, r_powW, r_mulW, x_izipM, x_glst, x_izip, iz_tup, iz_lst, x_lcV, x_par3, x_lz3, x_lstS, x_star, x_izip3, x_sumL, x_tru, x_rg2, x_metP, x_yes, lo_l, so_l, so_t, tr_int, x_clear, ex_plB, pb_causes, pb_clashes, pb_undone, on_book, x_iseq, is_tup, is_lst, x_seq, x_ifS, x_asg, x_par, x_for, x_gname, x_gnil, x_gcons, x_gtup, x_gixP, x_tup, x_lst, x_cons, x_nil, x_dK, x_op2, x_op1, x_opL, x_ret, x_mov, x_var, x_fz, x_c, x_next, x_drop, x_if, x_and, x_or, x_not, x_chain, x_tchain, x_tcmp, x_tval, x_tand, x_tor, x_tnot, x_isi, x_call, x_args0, x_argsV, x_argsL, x_put0, x_putN, x_putS, x_evN, x_evE, x_ev0, x_evC, x_atN, x_atD, x_metN, x_pn, x_ps, x_sl, x_rg1, x_orT, x_lrg2, x_endR, x_endN, x_outT, x_outF, x_out0, x_keyC, x_keyN, y_int, y_bl, y_str, y_non, y_tup, y_lst, y_frl, y_nil, y_cons, ats_nil, ats_cons, onAt_0, onAt_s, on_tape, on_int, on_str, on_bl, on_non, on_tup, on_lst, on_hole, on_frl, true_and, and_true, and_assoc, List.getElem?_cons_zero, List.getElem?_cons_succ, Option.some.injEq, exists_and_left, exists_eq_left', exists_eq_left, exists_eq_right, exists_eq_right', tape_left, tape_spot, tape_cells, set_spot, set_left, r_int, r_mod, r_fdiv, r_lt, r_le, r_gt, r_ge, r_eq, r_ne, r_eqS, r_neS, r_add, r_addL, r_sub, r_mul, r_mulL, r_pow, r_intB, r_abs, r_neg, r_lenL, r_lenT, r_lenF, r_append, r_popAt, r_extend, r_tyL, r_min, fz_fz, fzL_fz, List.all_cons, List.all_nil, Bool.and_true, Bool.true_and, D.tup.injEq, D.int.injEq, D.bl.injEq, D.str.injEq, D.lst.injEq, List.cons.injEq, List.length_cons, List.length_nil, ex_plN, List.set_cons_succ, List.set_cons_zero, decide_eq_true_eq, Nat.reduceAdd, Nat.reduceLT, Nat.reduceLeDiff, Nat.zero_add, Bool.not_true, Bool.not_false, Bool.not_eq_true, Bool.and_false, Bool.false_and, D.hole.injEq, ite_true, ite_false, if_true, if_false, reduceIte, Bool.false_eq_true, Nat.lt_add_one, reduceCtorEq, false_and, and_false, exists_false, exists_const, ne_eq, not_false_eq_true, true_or, or_true, or_false, false_or, List.getD_eq_getElem?_getD, Option.getD_some, ht'.on, ob]
    intro v
    refine to_pickI (ns := [1, 3, 12]) (n := n + 19000) (ht'.mono (by omega)) (by simp) (by simp) fun q t1 hq ht1 => ?_
    have hq' : 1 ≤ q ∧ q ≤ 12 := by
      simp only [List.mem_cons, List.not_mem_nil, or_false] at hq
      omega
    simp (maxSteps := 2000000) only [x_callZ, x_enumS, x_minD, x_maxD, r_powW, r_mulW, x_izipM, x_glst, x_izip, iz_tup, iz_lst, x_lcV, x_par3, x_lz3, x_lstS, x_star, x_izip3, x_sumL, x_tru, x_rg2, x_metP, x_yes, lo_l, so_l, so_t, tr_int, x_clear, ex_plB, pb_causes, pb_clashes, pb_undone, on_book, x_iseq, is_tup, is_lst, x_seq, x_ifS, x_asg, x_par, x_for, x_gname, x_gnil, x_gcons, x_gtup, x_gixP, x_tup, x_lst, x_cons, x_nil, x_dK, x_op2, x_op1, x_opL, x_ret, x_mov, x_var, x_fz, x_c, x_next, x_drop, x_if, x_and, x_or, x_not, x_chain, x_tchain, x_tcmp, x_tval, x_tand, x_tor, x_tnot, x_isi, x_call, x_args0, x_argsV, x_argsL, x_put0, x_putN, x_putS, x_evN, x_evE, x_ev0, x_evC, x_atN, x_atD, x_metN, x_pn, x_ps, x_sl, x_rg1, x_orT, x_lrg2, x_endR, x_endN, x_outT, x_outF, x_out0, x_keyC, x_keyN, y_int, y_bl, y_str, y_non, y_tup, y_lst, y_frl, y_nil, y_cons, ats_nil, ats_cons, onAt_0, onAt_s, on_tape, on_int, on_str, on_bl, on_non, on_tup, on_lst, on_hole, on_frl, true_and, and_true, and_assoc, List.getElem?_cons_zero, List.getElem?_cons_succ, Option.some.injEq, exists_and_left, exists_eq_left', exists_eq_left, exists_eq_right, exists_eq_right', tape_left, tape_spot, tape_cells, set_spot, set_left, r_int, r_mod, r_fdiv, r_lt, r_le, r_gt, r_ge, r_eq, r_ne, r_eqS, r_neS, r_add, r_addL, r_sub, r_mul, r_mulL, r_pow, r_intB, r_abs, r_neg, r_lenL, r_lenT, r_lenF, r_append, r_popAt, r_extend, r_tyL, r_min, fz_fz, fzL_fz, List.all_cons, List.all_nil, Bool.and_true, Bool.true_and, D.tup.injEq, D.int.injEq, D.bl.injEq, D.str.injEq, D.lst.injEq, List.cons.injEq, List.length_cons, List.length_nil, ex_plN, List.set_cons_succ, List.set_cons_zero, decide_eq_true_eq, Nat.reduceAdd, Nat.reduceLT, Nat.reduceLeDiff, Nat.zero_add, Bool.not_true, Bool.not_false, Bool.not_eq_true, Bool.and_false, Bool.false_and, D.hole.injEq, ite_true, ite_false, if_true, if_false, reduceIte, Bool.false_eq_true, Nat.lt_add_one, reduceCtorEq, false_and, and_false, exists_false, exists_const, ne_eq, not_false_eq_true, true_or, or_true, or_false, false_or, ht1.on, ob]
    refine ⟨by omega, by omega, ?_⟩
    refine for_inv (fun i s => ∃ t' S a, s = [t', b, .int m, .lst true (S.map spotD), .lst true (P.map spotD), .int q, a] ∧ S.length = i ∧ (∀ σ ∈ S, Spot k σ) ∧ Tape (n + 200 * (60 - i)) t') ⟨t1, [], _, rfl, rfl, by simp, ht1.mono (by omega)⟩ ?_ ?_
    · rintro i x hx s ⟨t', S, a, rfl, hSl, hS, ht'⟩ E' hnx - - -
      obtain ⟨hi, rfl⟩ := rangeD_at hx
      have hi60 : i < 60 := by omega
      have hsub : n + 200 * (60 - i) = n + 200 * (60 - (i + 1)) + 200 := by omega
      rw [hsub] at ht'
      simp (maxSteps := 2000000) only [x_callZ, x_enumS, x_minD, x_maxD, r_powW, r_mulW, x_izipM, x_glst, x_izip, iz_tup, iz_lst, x_lcV, x_par3, x_lz3, x_lstS, x_star, x_izip3, x_sumL, x_tru, x_rg2, x_metP, x_yes, lo_l, so_l, so_t, tr_int, x_clear, ex_plB, pb_causes, pb_clashes, pb_undone, on_book, x_iseq, is_tup, is_lst, x_seq, x_ifS, x_asg, x_par, x_for, x_gname, x_gnil, x_gcons, x_gtup, x_gixP, x_tup, x_lst, x_cons, x_nil, x_dK, x_op2, x_op1, x_opL, x_ret, x_mov, x_var, x_fz, x_c, x_next, x_drop, x_if, x_and, x_or, x_not, x_chain, x_tchain, x_tcmp, x_tval, x_tand, x_tor, x_tnot, x_isi, x_call, x_args0, x_argsV, x_argsL, x_put0, x_putN, x_putS, x_evN, x_evE, x_ev0, x_evC, x_atN, x_atD, x_metN, x_pn, x_ps, x_sl, x_rg1, x_orT, x_lrg2, x_endR, x_endN, x_outT, x_outF, x_out0, x_keyC, x_keyN, y_int, y_bl, y_str, y_non, y_tup, y_lst, y_frl, y_nil, y_cons, ats_nil, ats_cons, onAt_0, onAt_s, on_tape, on_int, on_str, on_bl, on_non, on_tup, on_lst, on_hole, on_frl, true_and, and_true, and_assoc, List.getElem?_cons_zero, List.getElem?_cons_succ, Option.some.injEq, exists_and_left, exists_eq_left', exists_eq_left, exists_eq_right, exists_eq_right', tape_left, tape_spot, tape_cells, set_spot, set_left, r_int, r_mod, r_fdiv, r_lt, r_le, r_gt, r_ge, r_eq, r_ne, r_eqS, r_neS, r_add, r_addL, r_sub, r_mul, r_mulL, r_pow, r_intB, r_abs, r_neg, r_lenL, r_lenT, r_lenF, r_append, r_popAt, r_extend, r_tyL, r_min, fz_fz, fzL_fz, List.all_cons, List.all_nil, Bool.and_true, Bool.true_and, D.tup.injEq, D.int.injEq, D.bl.injEq, D.str.injEq, D.lst.injEq, List.cons.injEq, List.length_cons, List.length_nil, ex_plN, List.set_cons_succ, List.set_cons_zero, decide_eq_true_eq, Nat.reduceAdd, Nat.reduceLT, Nat.reduceLeDiff, Nat.zero_add, Bool.not_true, Bool.not_false, Bool.not_eq_true, Bool.and_false, Bool.false_and, D.hole.injEq, ite_true, ite_false, if_true, if_false, reduceIte, Bool.false_eq_true, Nat.lt_add_one, reduceCtorEq, false_and, and_false, exists_false, exists_const, ne_eq, not_false_eq_true, true_or, or_true, or_false, false_or, ht'.on, ob]
      intro v
      refine to_draw (n := n + 200 * (60 - (i + 1)) + 199) (ht'.mono (by omega)) (by omega) (by omega) fun r t2 hr0 hr1 ht2 => ?_
      simp (maxSteps := 2000000) only [x_callZ, x_enumS, x_minD, x_maxD, r_powW, r_mulW, x_izipM, x_glst, x_izip, iz_tup, iz_lst, x_lcV, x_par3, x_lz3, x_lstS, x_star, x_izip3, x_sumL, x_tru, x_rg2, x_metP, x_yes, lo_l, so_l, so_t, tr_int, x_clear, ex_plB, pb_causes, pb_clashes, pb_undone, on_book, x_iseq, is_tup, is_lst, x_seq, x_ifS, x_asg, x_par, x_for, x_gname, x_gnil, x_gcons, x_gtup, x_gixP, x_tup, x_lst, x_cons, x_nil, x_dK, x_op2, x_op1, x_opL, x_ret, x_mov, x_var, x_fz, x_c, x_next, x_drop, x_if, x_and, x_or, x_not, x_chain, x_tchain, x_tcmp, x_tval, x_tand, x_tor, x_tnot, x_isi, x_call, x_args0, x_argsV, x_argsL, x_put0, x_putN, x_putS, x_evN, x_evE, x_ev0, x_evC, x_atN, x_atD, x_metN, x_pn, x_ps, x_sl, x_rg1, x_orT, x_lrg2, x_endR, x_endN, x_outT, x_outF, x_out0, x_keyC, x_keyN, y_int, y_bl, y_str, y_non, y_tup, y_lst, y_frl, y_nil, y_cons, ats_nil, ats_cons, onAt_0, onAt_s, on_tape, on_int, on_str, on_bl, on_non, on_tup, on_lst, on_hole, on_frl, true_and, and_true, and_assoc, List.getElem?_cons_zero, List.getElem?_cons_succ, Option.some.injEq, exists_and_left, exists_eq_left', exists_eq_left, exists_eq_right, exists_eq_right', tape_left, tape_spot, tape_cells, set_spot, set_left, r_int, r_mod, r_fdiv, r_lt, r_le, r_gt, r_ge, r_eq, r_ne, r_eqS, r_neS, r_add, r_addL, r_sub, r_mul, r_mulL, r_pow, r_intB, r_abs, r_neg, r_lenL, r_lenT, r_lenF, r_append, r_popAt, r_extend, r_tyL, r_min, fz_fz, fzL_fz, List.all_cons, List.all_nil, Bool.and_true, Bool.true_and, D.tup.injEq, D.int.injEq, D.bl.injEq, D.str.injEq, D.lst.injEq, List.cons.injEq, List.length_cons, List.length_nil, ex_plN, List.set_cons_succ, List.set_cons_zero, decide_eq_true_eq, Nat.reduceAdd, Nat.reduceLT, Nat.reduceLeDiff, Nat.zero_add, Bool.not_true, Bool.not_false, Bool.not_eq_true, Bool.and_false, Bool.false_and, D.hole.injEq, ite_true, ite_false, if_true, if_false, reduceIte, Bool.false_eq_true, Nat.lt_add_one, reduceCtorEq, false_and, and_false, exists_false, exists_const, ne_eq, not_false_eq_true, true_or, or_true, or_false, false_or, ht2.on, ob, tyD_lst]
      have nx : ∀ (t4 : D) (σ : List Int), Tape (n + 200 * (60 - (i + 1))) t4 → Spot k σ → E'.nx [t4, b, .int m, .lst true (S.map spotD ++ [spotD σ]), .lst true (P.map spotD), .int q, .int (0 + (i : Nat))] := fun t4 σ ht4 hσ => by
        refine hnx _ ⟨t4, S ++ [σ], _, by rw [List.map_append]; rfl, by rw [List.length_append, hSl]; rfl, fun σ' h => ?_, ht4⟩
        rcases List.mem_append.mp h with h | h
        · exact hS σ' h
        · rw [List.mem_singleton.mp h]; exact hσ
      split
      · rw [r_slL (fzL_spots S)]
        intro v1 v2
        refine ⟨t2, b, k, n + 200 * (60 - (i + 1)) + 99, rfl, hb, ht2.mono (by omega), fun σ t3 hσ ht3 => ?_⟩
        simp (maxSteps := 2000000) only [x_callZ, x_enumS, x_minD, x_maxD, r_powW, r_mulW, x_izipM, x_glst, x_izip, iz_tup, iz_lst, x_lcV, x_par3, x_lz3, x_lstS, x_star, x_izip3, x_sumL, x_tru, x_rg2, x_metP, x_yes, lo_l, so_l, so_t, tr_int, x_clear, ex_plB, pb_causes, pb_clashes, pb_undone, on_book, x_iseq, is_tup, is_lst, x_seq, x_ifS, x_asg, x_par, x_for, x_gname, x_gnil, x_gcons, x_gtup, x_gixP, x_tup, x_lst, x_cons, x_nil, x_dK, x_op2, x_op1, x_opL, x_ret, x_mov, x_var, x_fz, x_c, x_next, x_drop, x_if, x_and, x_or, x_not, x_chain, x_tchain, x_tcmp, x_tval, x_tand, x_tor, x_tnot, x_isi, x_call, x_args0, x_argsV, x_argsL, x_put0, x_putN, x_putS, x_evN, x_evE, x_ev0, x_evC, x_atN, x_atD, x_metN, x_pn, x_ps, x_sl, x_rg1, x_orT, x_lrg2, x_endR, x_endN, x_outT, x_outF, x_out0, x_keyC, x_keyN, y_int, y_bl, y_str, y_non, y_tup, y_lst, y_frl, y_nil, y_cons, ats_nil, ats_cons, onAt_0, onAt_s, on_tape, on_int, on_str, on_bl, on_non, on_tup, on_lst, on_hole, on_frl, true_and, and_true, and_assoc, List.getElem?_cons_zero, List.getElem?_cons_succ, Option.some.injEq, exists_and_left, exists_eq_left', exists_eq_left, exists_eq_right, exists_eq_right', tape_left, tape_spot, tape_cells, set_spot, set_left, r_int, r_mod, r_fdiv, r_lt, r_le, r_gt, r_ge, r_eq, r_ne, r_eqS, r_neS, r_add, r_addL, r_sub, r_mul, r_mulL, r_pow, r_intB, r_abs, r_neg, r_lenL, r_lenT, r_lenF, r_append, r_popAt, r_extend, r_tyL, r_min, fz_fz, fzL_fz, List.all_cons, List.all_nil, Bool.and_true, Bool.true_and, D.tup.injEq, D.int.injEq, D.bl.injEq, D.str.injEq, D.lst.injEq, List.cons.injEq, List.length_cons, List.length_nil, ex_plN, List.set_cons_succ, List.set_cons_zero, decide_eq_true_eq, Nat.reduceAdd, Nat.reduceLT, Nat.reduceLeDiff, Nat.zero_add, Bool.not_true, Bool.not_false, Bool.not_eq_true, Bool.and_false, Bool.false_and, D.hole.injEq, ite_true, ite_false, if_true, if_false, reduceIte, Bool.false_eq_true, Nat.lt_add_one, reduceCtorEq, false_and, and_false, exists_false, exists_const, ne_eq, not_false_eq_true, true_or, or_true, or_false, false_or, ht3.on, ob]
        have hcm : ∀ d ∈ M.cutD (S.map spotD) (some (-1)) none, ∃ σ, d = spotD σ ∧ Spot k σ := fun d hd => by
          obtain ⟨σ', h1, rfl⟩ := List.mem_map.mp (cut_mem hd)
          exact ⟨σ', rfl, hS σ' h1⟩
        have hall : ∀ d ∈ M.cutD (S.map spotD) (some (-1)) none ++ (List.replicate (Int.toNat 3) [spotD σ]).flatten, ∃ σ, d = spotD σ ∧ Spot k σ := fun d hd => by
          rcases List.mem_append.mp hd with hd | hd
          · exact hcm d hd
          · obtain ⟨l, hl3, hd⟩ := List.mem_flatten.mp hd
            rw [List.eq_of_mem_replicate hl3] at hd
            exact ⟨σ, List.mem_singleton.mp hd, hσ⟩
        have hfz : ∀ d, (∃ σ, d = spotD σ ∧ Spot k σ) → on d = true ∧ fz d = d := fun d ⟨σ, e, _⟩ => by subst e; exact ⟨rfl, fz_spot⟩
        have hlen : (M.cutD (S.map spotD) (some (-1)) none).length ≤ 60 := Nat.le_trans cut_len (by rw [List.length_map]; omega)
        refine ⟨fz_spot, by decide, by decide, by rw [sizeLine_eq]; decide, ?_⟩
        have f1 := fzL_of fun d hd => (hfz d (hcm d hd)).2
        have f2 := fzL_of fun d hd => (hfz d (hall d hd)).2
        have f3 : fzL (List.replicate (Int.toNat 3) [spotD σ]).flatten = (List.replicate (Int.toNat 3) [spotD σ]).flatten := fzL_of fun d hd => (hfz d (hall d (List.mem_append_right _ hd))).2
        have l3 : (List.replicate (Int.toNat 3) [spotD σ]).flatten.length = 3 := rfl
        simp (maxSteps := 2000000) only [x_callZ, x_enumS, x_minD, x_maxD, r_powW, r_mulW, x_izipM, x_glst, x_izip, iz_tup, iz_lst, x_lcV, x_par3, x_lz3, x_lstS, x_star, x_izip3, x_sumL, x_tru, x_rg2, x_metP, x_yes, lo_l, so_l, so_t, tr_int, x_clear, ex_plB, pb_causes, pb_clashes, pb_undone, on_book, x_iseq, is_tup, is_lst, x_seq, x_ifS, x_asg, x_par, x_for, x_gname, x_gnil, x_gcons, x_gtup, x_gixP, x_tup, x_lst, x_cons, x_nil, x_dK, x_op2, x_op1, x_opL, x_ret, x_mov, x_var, x_fz, x_c, x_next, x_drop, x_if, x_and, x_or, x_not, x_chain, x_tchain, x_tcmp, x_tval, x_tand, x_tor, x_tnot, x_isi, x_call, x_args0, x_argsV, x_argsL, x_put0, x_putN, x_putS, x_evN, x_evE, x_ev0, x_evC, x_atN, x_atD, x_metN, x_pn, x_ps, x_sl, x_rg1, x_orT, x_lrg2, x_endR, x_endN, x_outT, x_outF, x_out0, x_keyC, x_keyN, y_int, y_bl, y_str, y_non, y_tup, y_lst, y_frl, y_nil, y_cons, ats_nil, ats_cons, onAt_0, onAt_s, on_tape, on_int, on_str, on_bl, on_non, on_tup, on_lst, on_hole, on_frl, true_and, and_true, and_assoc, List.getElem?_cons_zero, List.getElem?_cons_succ, Option.some.injEq, exists_and_left, exists_eq_left', exists_eq_left, exists_eq_right, exists_eq_right', tape_left, tape_spot, tape_cells, set_spot, set_left, r_int, r_mod, r_fdiv, r_lt, r_le, r_gt, r_ge, r_eq, r_ne, r_eqS, r_neS, r_add, r_addL, r_sub, r_mul, r_mulL, r_pow, r_intB, r_abs, r_neg, r_lenL, r_lenT, r_lenF, r_append, r_popAt, r_extend, r_tyL, r_min, fz_fz, fzL_fz, List.all_cons, List.all_nil, Bool.and_true, Bool.true_and, D.tup.injEq, D.int.injEq, D.bl.injEq, D.str.injEq, D.lst.injEq, List.cons.injEq, List.length_cons, List.length_nil, ex_plN, List.set_cons_succ, List.set_cons_zero, decide_eq_true_eq, Nat.reduceAdd, Nat.reduceLT, Nat.reduceLeDiff, Nat.zero_add, Bool.not_true, Bool.not_false, Bool.not_eq_true, Bool.and_false, Bool.false_and, D.hole.injEq, ite_true, ite_false, if_true, if_false, reduceIte, Bool.false_eq_true, Nat.lt_add_one, reduceCtorEq, false_and, and_false, exists_false, exists_const, ne_eq, not_false_eq_true, true_or, or_true, or_false, false_or, f1, f2, f3, l3, ht3.on, ob]
        refine ⟨sizeOk (by omega), ?_⟩
        intro v
        refine to_pick (n := n + 200 * (60 - (i + 1)) + 98) (ht3.mono (by omega)) (fun h => ?_) (by rw [List.length_append, l3]; omega) (fun d hd => hfz d (hall d hd)) fun d t4 hd ht4 => ?_
        · have := congrArg List.length h
          rw [List.length_append, l3] at this
          simp at this
        obtain ⟨σ4, rfl, hσ4⟩ := hall d hd
        have os : on (spotD σ4) = true := rfl
        simp (maxSteps := 2000000) only [x_callZ, x_enumS, x_minD, x_maxD, r_powW, r_mulW, x_izipM, x_glst, x_izip, iz_tup, iz_lst, x_lcV, x_par3, x_lz3, x_lstS, x_star, x_izip3, x_sumL, x_tru, x_rg2, x_metP, x_yes, lo_l, so_l, so_t, tr_int, x_clear, ex_plB, pb_causes, pb_clashes, pb_undone, on_book, x_iseq, is_tup, is_lst, x_seq, x_ifS, x_asg, x_par, x_for, x_gname, x_gnil, x_gcons, x_gtup, x_gixP, x_tup, x_lst, x_cons, x_nil, x_dK, x_op2, x_op1, x_opL, x_ret, x_mov, x_var, x_fz, x_c, x_next, x_drop, x_if, x_and, x_or, x_not, x_chain, x_tchain, x_tcmp, x_tval, x_tand, x_tor, x_tnot, x_isi, x_call, x_args0, x_argsV, x_argsL, x_put0, x_putN, x_putS, x_evN, x_evE, x_ev0, x_evC, x_atN, x_atD, x_metN, x_pn, x_ps, x_sl, x_rg1, x_orT, x_lrg2, x_endR, x_endN, x_outT, x_outF, x_out0, x_keyC, x_keyN, y_int, y_bl, y_str, y_non, y_tup, y_lst, y_frl, y_nil, y_cons, ats_nil, ats_cons, onAt_0, onAt_s, on_tape, on_int, on_str, on_bl, on_non, on_tup, on_lst, on_hole, on_frl, true_and, and_true, and_assoc, List.getElem?_cons_zero, List.getElem?_cons_succ, Option.some.injEq, exists_and_left, exists_eq_left', exists_eq_left, exists_eq_right, exists_eq_right', tape_left, tape_spot, tape_cells, set_spot, set_left, r_int, r_mod, r_fdiv, r_lt, r_le, r_gt, r_ge, r_eq, r_ne, r_eqS, r_neS, r_add, r_addL, r_sub, r_mul, r_mulL, r_pow, r_intB, r_abs, r_neg, r_lenL, r_lenT, r_lenF, r_append, r_popAt, r_extend, r_tyL, r_min, fz_fz, fzL_fz, List.all_cons, List.all_nil, Bool.and_true, Bool.true_and, D.tup.injEq, D.int.injEq, D.bl.injEq, D.str.injEq, D.lst.injEq, List.cons.injEq, List.length_cons, List.length_nil, ex_plN, List.set_cons_succ, List.set_cons_zero, decide_eq_true_eq, Nat.reduceAdd, Nat.reduceLT, Nat.reduceLeDiff, Nat.zero_add, Bool.not_true, Bool.not_false, Bool.not_eq_true, Bool.and_false, Bool.false_and, D.hole.injEq, ite_true, ite_false, if_true, if_false, reduceIte, Bool.false_eq_true, Nat.lt_add_one, reduceCtorEq, false_and, and_false, exists_false, exists_const, ne_eq, not_false_eq_true, true_or, or_true, or_false, false_or, ht4.on, ob, fz_spot, os]
        refine ⟨Nat.lt_of_le_of_lt (Nat.le_of_eq (List.length_map ..)) (by rw [sizeLine_eq]; omega), nx t4 σ4 (ht4.mono (by omega)) hσ4⟩
      · refine ⟨by decide, ?_⟩
        have hm2 : 0 ≤ (0 + (i : Int)) % 2 ∧ (0 + (i : Int)) % 2 < 2 := ⟨Int.emod_nonneg _ (by decide), Int.emod_lt_of_pos _ (by decide)⟩
        obtain ⟨σ4, h4, e4, _⟩ := atI_map (f := spotD) (xs := P) (i := (0 + (i : Int)) % 2) hm2.1 (by rw [hP2]; exact hm2.2)
        rw [ix_at e4 fz_spot]
        simp (maxSteps := 2000000) only [x_callZ, x_enumS, x_minD, x_maxD, r_powW, r_mulW, x_izipM, x_glst, x_izip, iz_tup, iz_lst, x_lcV, x_par3, x_lz3, x_lstS, x_star, x_izip3, x_sumL, x_tru, x_rg2, x_metP, x_yes, lo_l, so_l, so_t, tr_int, x_clear, ex_plB, pb_causes, pb_clashes, pb_undone, on_book, x_iseq, is_tup, is_lst, x_seq, x_ifS, x_asg, x_par, x_for, x_gname, x_gnil, x_gcons, x_gtup, x_gixP, x_tup, x_lst, x_cons, x_nil, x_dK, x_op2, x_op1, x_opL, x_ret, x_mov, x_var, x_fz, x_c, x_next, x_drop, x_if, x_and, x_or, x_not, x_chain, x_tchain, x_tcmp, x_tval, x_tand, x_tor, x_tnot, x_isi, x_call, x_args0, x_argsV, x_argsL, x_put0, x_putN, x_putS, x_evN, x_evE, x_ev0, x_evC, x_atN, x_atD, x_metN, x_pn, x_ps, x_sl, x_rg1, x_orT, x_lrg2, x_endR, x_endN, x_outT, x_outF, x_out0, x_keyC, x_keyN, y_int, y_bl, y_str, y_non, y_tup, y_lst, y_frl, y_nil, y_cons, ats_nil, ats_cons, onAt_0, onAt_s, on_tape, on_int, on_str, on_bl, on_non, on_tup, on_lst, on_hole, on_frl, true_and, and_true, and_assoc, List.getElem?_cons_zero, List.getElem?_cons_succ, Option.some.injEq, exists_and_left, exists_eq_left', exists_eq_left, exists_eq_right, exists_eq_right', tape_left, tape_spot, tape_cells, set_spot, set_left, r_int, r_mod, r_fdiv, r_lt, r_le, r_gt, r_ge, r_eq, r_ne, r_eqS, r_neS, r_add, r_addL, r_sub, r_mul, r_mulL, r_pow, r_intB, r_abs, r_neg, r_lenL, r_lenT, r_lenF, r_append, r_popAt, r_extend, r_tyL, r_min, fz_fz, fzL_fz, List.all_cons, List.all_nil, Bool.and_true, Bool.true_and, D.tup.injEq, D.int.injEq, D.bl.injEq, D.str.injEq, D.lst.injEq, List.cons.injEq, List.length_cons, List.length_nil, ex_plN, List.set_cons_succ, List.set_cons_zero, decide_eq_true_eq, Nat.reduceAdd, Nat.reduceLT, Nat.reduceLeDiff, Nat.zero_add, Bool.not_true, Bool.not_false, Bool.not_eq_true, Bool.and_false, Bool.false_and, D.hole.injEq, ite_true, ite_false, if_true, if_false, reduceIte, Bool.false_eq_true, Nat.lt_add_one, reduceCtorEq, false_and, and_false, exists_false, exists_const, ne_eq, not_false_eq_true, true_or, or_true, or_false, false_or, fz_spot]
        refine ⟨Nat.lt_of_le_of_lt (Nat.le_of_eq (List.length_map ..)) (by rw [sizeLine_eq]; omega), nx t2 σ4 (ht2.mono (by omega)) (hP σ4 h4)⟩
    · rintro s ⟨t', S, a, rfl, hSl, hS, ht'⟩
      rw [rangeD_len] at ht' hSl
      simp (maxSteps := 2000000) only [x_callZ, x_enumS, x_minD, x_maxD, r_powW, r_mulW, x_izipM, x_glst, x_izip, iz_tup, iz_lst, x_lcV, x_par3, x_lz3, x_lstS, x_star, x_izip3, x_sumL, x_tru, x_rg2, x_metP, x_yes, lo_l, so_l, so_t, tr_int, x_clear, ex_plB, pb_causes, pb_clashes, pb_undone, on_book, x_iseq, is_tup, is_lst, x_seq, x_ifS, x_asg, x_par, x_for, x_gname, x_gnil, x_gcons, x_gtup, x_gixP, x_tup, x_lst, x_cons, x_nil, x_dK, x_op2, x_op1, x_opL, x_ret, x_mov, x_var, x_fz, x_c, x_next, x_drop, x_if, x_and, x_or, x_not, x_chain, x_tchain, x_tcmp, x_tval, x_tand, x_tor, x_tnot, x_isi, x_call, x_args0, x_argsV, x_argsL, x_put0, x_putN, x_putS, x_evN, x_evE, x_ev0, x_evC, x_atN, x_atD, x_metN, x_pn, x_ps, x_sl, x_rg1, x_orT, x_lrg2, x_endR, x_endN, x_outT, x_outF, x_out0, x_keyC, x_keyN, y_int, y_bl, y_str, y_non, y_tup, y_lst, y_frl, y_nil, y_cons, ats_nil, ats_cons, onAt_0, onAt_s, on_tape, on_int, on_str, on_bl, on_non, on_tup, on_lst, on_hole, on_frl, true_and, and_true, and_assoc, List.getElem?_cons_zero, List.getElem?_cons_succ, Option.some.injEq, exists_and_left, exists_eq_left', exists_eq_left, exists_eq_right, exists_eq_right', tape_left, tape_spot, tape_cells, set_spot, set_left, r_int, r_mod, r_fdiv, r_lt, r_le, r_gt, r_ge, r_eq, r_ne, r_eqS, r_neS, r_add, r_addL, r_sub, r_mul, r_mulL, r_pow, r_intB, r_abs, r_neg, r_lenL, r_lenT, r_lenF, r_append, r_popAt, r_extend, r_tyL, r_min, fz_fz, fzL_fz, List.all_cons, List.all_nil, Bool.and_true, Bool.true_and, D.tup.injEq, D.int.injEq, D.bl.injEq, D.str.injEq, D.lst.injEq, List.cons.injEq, List.length_cons, List.length_nil, ex_plN, List.set_cons_succ, List.set_cons_zero, decide_eq_true_eq, Nat.reduceAdd, Nat.reduceLT, Nat.reduceLeDiff, Nat.zero_add, Bool.not_true, Bool.not_false, Bool.not_eq_true, Bool.and_false, Bool.false_and, D.hole.injEq, ite_true, ite_false, if_true, if_false, reduceIte, Bool.false_eq_true, Nat.lt_add_one, reduceCtorEq, false_and, and_false, exists_false, exists_const, ne_eq, not_false_eq_true, true_or, or_true, or_false, false_or, ht'.on, ob]
      exact hR S t' (by omega) hS (ht'.mono (by omega))
end Q

namespace Q
open PySem PySem.Spec PyProof.Rows L2 M Z3
theorem wp_meet : ∀ ds R, ds.length = 3 → S_meet ds R → w_meet (endsB [false, false, false] R) (startD 3 6 ds) := by
  rintro ds R hl ⟨x, y, z, rfl, h1, h2, h3, hR⟩
  have st : startD 3 6 [spotD x, spotD y, spotD z] = [.tup (x.map .int), .tup (y.map .int), .tup (z.map .int), .off, .off, .off] := rfl
  rw [st]
  unfold w_meet
  simp (maxSteps := 2000000) only [x_callZ, x_enumS, x_minD, x_maxD, r_powW, r_mulW, x_izipM, x_glst, x_izip, iz_tup, iz_lst, x_lcV, x_par3, x_lz3, x_lstS, x_star, x_izip3, x_sumL, x_tru, x_rg2, x_metP, x_yes, lo_l, so_l, so_t, tr_int, x_clear, ex_plB, pb_causes, pb_clashes, pb_undone, on_book, x_iseq, is_tup, is_lst, x_seq, x_ifS, x_asg, x_par, x_for, x_gname, x_gnil, x_gcons, x_gtup, x_gixP, x_tup, x_lst, x_cons, x_nil, x_dK, x_op2, x_op1, x_opL, x_ret, x_mov, x_var, x_fz, x_c, x_next, x_drop, x_if, x_and, x_or, x_not, x_chain, x_tchain, x_tcmp, x_tval, x_tand, x_tor, x_tnot, x_isi, x_call, x_args0, x_argsV, x_argsL, x_put0, x_putN, x_putS, x_evN, x_evE, x_ev0, x_evC, x_atN, x_atD, x_metN, x_pn, x_ps, x_sl, x_rg1, x_orT, x_lrg2, x_endR, x_endN, x_outT, x_outF, x_out0, x_keyC, x_keyN, y_int, y_bl, y_str, y_non, y_tup, y_lst, y_frl, y_nil, y_cons, ats_nil, ats_cons, onAt_0, onAt_s, on_tape, on_int, on_str, on_bl, on_non, on_tup, on_lst, on_hole, on_frl, true_and, and_true, and_assoc, List.getElem?_cons_zero, List.getElem?_cons_succ, Option.some.injEq, exists_and_left, exists_eq_left', exists_eq_left, exists_eq_right, exists_eq_right', tape_left, tape_spot, tape_cells, set_spot, set_left, r_int, r_mod, r_fdiv, r_lt, r_le, r_gt, r_ge, r_eq, r_ne, r_eqS, r_neS, r_add, r_addL, r_sub, r_mul, r_mulL, r_pow, r_intB, r_abs, r_neg, r_lenL, r_lenT, r_lenF, r_append, r_popAt, r_extend, r_tyL, r_min, fz_fz, fzL_fz, List.all_cons, List.all_nil, Bool.and_true, Bool.true_and, D.tup.injEq, D.int.injEq, D.bl.injEq, D.str.injEq, D.lst.injEq, List.cons.injEq, List.length_cons, List.length_nil, ex_plN, List.set_cons_succ, List.set_cons_zero, decide_eq_true_eq, Nat.reduceAdd, Nat.reduceLT, Nat.reduceLeDiff, Nat.zero_add, Bool.not_true, Bool.not_false, Bool.not_eq_true, Bool.and_false, Bool.false_and, D.hole.injEq, ite_true, ite_false, if_true, if_false, reduceIte, Bool.false_eq_true, Nat.lt_add_one, reduceCtorEq, false_and, and_false, exists_false, exists_const, ne_eq, not_false_eq_true, true_or, or_true, or_false, false_or, fzL_ints, List.length_map]
  refine ⟨h1, h2, sizeOk (by unfold zip3D; rw [z3_len, List.length_map]; omega), by decide, ?_⟩
  rw [zip3_map]
  refine lc_over _ _ (fun t => .int (if t.1 = t.2.1 ∨ t.1 = t.2.2 then t.1 else t.2.1)) (fun s => s = [.tup (x.map .int), .tup (y.map .int), .tup (z.map .int), .off, .off, .off]) rfl ?_ ?_
  · rintro j ⟨a, b, c⟩ ha s rfl K hK
    have hK := hK [.tup (x.map .int), .tup (y.map .int), .tup (z.map .int), .int a, .int b, .int c] rfl
    simp (maxSteps := 2000000) only [x_callZ, x_enumS, x_minD, x_maxD, r_powW, r_mulW, x_izipM, x_glst, x_izip, iz_tup, iz_lst, x_lcV, x_par3, x_lz3, x_lstS, x_star, x_izip3, x_sumL, x_tru, x_rg2, x_metP, x_yes, lo_l, so_l, so_t, tr_int, x_clear, ex_plB, pb_causes, pb_clashes, pb_undone, on_book, x_iseq, is_tup, is_lst, x_seq, x_ifS, x_asg, x_par, x_for, x_gname, x_gnil, x_gcons, x_gtup, x_gixP, x_tup, x_lst, x_cons, x_nil, x_dK, x_op2, x_op1, x_opL, x_ret, x_mov, x_var, x_fz, x_c, x_next, x_drop, x_if, x_and, x_or, x_not, x_chain, x_tchain, x_tcmp, x_tval, x_tand, x_tor, x_tnot, x_isi, x_call, x_args0, x_argsV, x_argsL, x_put0, x_putN, x_putS, x_evN, x_evE, x_ev0, x_evC, x_atN, x_atD, x_metN, x_pn, x_ps, x_sl, x_rg1, x_orT, x_lrg2, x_endR, x_endN, x_outT, x_outF, x_out0, x_keyC, x_keyN, y_int, y_bl, y_str, y_non, y_tup, y_lst, y_frl, y_nil, y_cons, ats_nil, ats_cons, onAt_0, onAt_s, on_tape, on_int, on_str, on_bl, on_non, on_tup, on_lst, on_hole, on_frl, true_and, and_true, and_assoc, List.getElem?_cons_zero, List.getElem?_cons_succ, Option.some.injEq, exists_and_left, exists_eq_left', exists_eq_left, exists_eq_right, exists_eq_right', tape_left, tape_spot, tape_cells, set_spot, set_left, r_int, r_mod, r_fdiv, r_lt, r_le, r_gt, r_ge, r_eq, r_ne, r_eqS, r_neS, r_add, r_addL, r_sub, r_mul, r_mulL, r_pow, r_intB, r_abs, r_neg, r_lenL, r_lenT, r_lenF, r_append, r_popAt, r_extend, r_tyL, r_min, fz_fz, fzL_fz, List.all_cons, List.all_nil, Bool.and_true, Bool.true_and, D.tup.injEq, D.int.injEq, D.bl.injEq, D.str.injEq, D.lst.injEq, List.cons.injEq, List.length_cons, List.length_nil, ex_plN, List.set_cons_succ, List.set_cons_zero, decide_eq_true_eq, Nat.reduceAdd, Nat.reduceLT, Nat.reduceLeDiff, Nat.zero_add, Bool.not_true, Bool.not_false, Bool.not_eq_true, Bool.and_false, Bool.false_and, D.hole.injEq, ite_true, ite_false, if_true, if_false, reduceIte, Bool.false_eq_true, Nat.lt_add_one, reduceCtorEq, false_and, and_false, exists_false, exists_const, ne_eq, not_false_eq_true, true_or, or_true, or_false, false_or]
    rw [r_inT2]
    simp (maxSteps := 2000000) only [x_callZ, x_enumS, x_minD, x_maxD, r_powW, r_mulW, x_izipM, x_glst, x_izip, iz_tup, iz_lst, x_lcV, x_par3, x_lz3, x_lstS, x_star, x_izip3, x_sumL, x_tru, x_rg2, x_metP, x_yes, lo_l, so_l, so_t, tr_int, x_clear, ex_plB, pb_causes, pb_clashes, pb_undone, on_book, x_iseq, is_tup, is_lst, x_seq, x_ifS, x_asg, x_par, x_for, x_gname, x_gnil, x_gcons, x_gtup, x_gixP, x_tup, x_lst, x_cons, x_nil, x_dK, x_op2, x_op1, x_opL, x_ret, x_mov, x_var, x_fz, x_c, x_next, x_drop, x_if, x_and, x_or, x_not, x_chain, x_tchain, x_tcmp, x_tval, x_tand, x_tor, x_tnot, x_isi, x_call, x_args0, x_argsV, x_argsL, x_put0, x_putN, x_putS, x_evN, x_evE, x_ev0, x_evC, x_atN, x_atD, x_metN, x_pn, x_ps, x_sl, x_rg1, x_orT, x_lrg2, x_endR, x_endN, x_outT, x_outF, x_out0, x_keyC, x_keyN, y_int, y_bl, y_str, y_non, y_tup, y_lst, y_frl, y_nil, y_cons, ats_nil, ats_cons, onAt_0, onAt_s, on_tape, on_int, on_str, on_bl, on_non, on_tup, on_lst, on_hole, on_frl, true_and, and_true, and_assoc, List.getElem?_cons_zero, List.getElem?_cons_succ, Option.some.injEq, exists_and_left, exists_eq_left', exists_eq_left, exists_eq_right, exists_eq_right', tape_left, tape_spot, tape_cells, set_spot, set_left, r_int, r_mod, r_fdiv, r_lt, r_le, r_gt, r_ge, r_eq, r_ne, r_eqS, r_neS, r_add, r_addL, r_sub, r_mul, r_mulL, r_pow, r_intB, r_abs, r_neg, r_lenL, r_lenT, r_lenF, r_append, r_popAt, r_extend, r_tyL, r_min, fz_fz, fzL_fz, List.all_cons, List.all_nil, Bool.and_true, Bool.true_and, D.tup.injEq, D.int.injEq, D.bl.injEq, D.str.injEq, D.lst.injEq, List.cons.injEq, List.length_cons, List.length_nil, ex_plN, List.set_cons_succ, List.set_cons_zero, decide_eq_true_eq, Nat.reduceAdd, Nat.reduceLT, Nat.reduceLeDiff, Nat.zero_add, Bool.not_true, Bool.not_false, Bool.not_eq_true, Bool.and_false, Bool.false_and, D.hole.injEq, ite_true, ite_false, if_true, if_false, reduceIte, Bool.false_eq_true, Nat.lt_add_one, reduceCtorEq, false_and, and_false, exists_false, exists_const, ne_eq, not_false_eq_true, true_or, or_true, or_false, false_or]
    split <;> rename_i hh
    · simp only [hh, if_true] at hK
      exact hK
    · simp only [hh, if_false] at hK
      exact hK
  · rintro s rfl
    have e : ((trip x y z).map fun t => D.int (if t.1 = t.2.1 ∨ t.1 = t.2.2 then t.1 else t.2.1)) = (meetL x y z).map .int := by
      unfold meetL
      rw [z3_trip, List.map_map]
      rfl
    rw [e]
    simp only [restore, unset, x_callZ, x_enumS, x_minD, x_maxD, r_powW, r_mulW, x_izipM, x_glst, x_izip, iz_tup, iz_lst, x_lcV, x_par3, x_lz3, x_lstS, x_star, x_izip3, x_sumL, x_tru, x_rg2, x_metP, x_yes, lo_l, so_l, so_t, tr_int, x_clear, ex_plB, pb_causes, pb_clashes, pb_undone, on_book, x_iseq, is_tup, is_lst, x_seq, x_ifS, x_asg, x_par, x_for, x_gname, x_gnil, x_gcons, x_gtup, x_gixP, x_tup, x_lst, x_cons, x_nil, x_dK, x_op2, x_op1, x_opL, x_ret, x_mov, x_var, x_fz, x_c, x_next, x_drop, x_if, x_and, x_or, x_not, x_chain, x_tchain, x_tcmp, x_tval, x_tand, x_tor, x_tnot, x_isi, x_call, x_args0, x_argsV, x_argsL, x_put0, x_putN, x_putS, x_evN, x_evE, x_ev0, x_evC, x_atN, x_atD, x_metN, x_pn, x_ps, x_sl, x_rg1, x_orT, x_lrg2, x_endR, x_endN, x_outT, x_outF, x_out0, x_keyC, x_keyN, y_int, y_bl, y_str, y_non, y_tup, y_lst, y_frl, y_nil, y_cons, ats_nil, ats_cons, onAt_0, onAt_s, on_tape, on_int, on_str, on_bl, on_non, on_tup, on_lst, on_hole, on_frl, true_and, and_true, and_assoc, List.getElem?_cons_zero, List.getElem?_cons_succ, Option.some.injEq, exists_and_left, exists_eq_left', exists_eq_left, exists_eq_right, exists_eq_right', tape_left, tape_spot, tape_cells, set_spot, set_left, r_int, r_mod, r_fdiv, r_lt, r_le, r_gt, r_ge, r_eq, r_ne, r_eqS, r_neS, r_add, r_addL, r_sub, r_mul, r_mulL, r_pow, r_intB, r_abs, r_neg, r_lenL, r_lenT, r_lenF, r_append, r_popAt, r_extend, r_tyL, r_min, fz_fz, fzL_fz, List.all_cons, List.all_nil, Bool.and_true, Bool.true_and, D.tup.injEq, D.int.injEq, D.bl.injEq, D.str.injEq, D.lst.injEq, List.cons.injEq, List.length_cons, List.length_nil, ex_plN, List.set_cons_succ, List.set_cons_zero, decide_eq_true_eq, Nat.reduceAdd, Nat.reduceLT, Nat.reduceLeDiff, Nat.zero_add, Bool.not_true, Bool.not_false, Bool.not_eq_true, Bool.and_false, Bool.false_and, D.hole.injEq, ite_true, ite_false, if_true, if_false, reduceIte, Bool.false_eq_true, Nat.lt_add_one, reduceCtorEq, false_and, and_false, exists_false, exists_const, ne_eq, not_false_eq_true, true_or, or_true, or_false, false_or, List.getD_eq_getElem?_getD, Option.getD_some]
    exact (r_tuple (fzL_ints _)).mpr hR
end Q

namespace Q
open PySem PySem.Spec PyProof.Rows L2 M Z3
theorem wp_threes : ∀ ds R, ds.length = 2 → S_threes ds R → w_threes (endsB [false, false] R) (startD 2 4 ds) := by
  rintro ds R hl ⟨o, xs, r, rfl, h0, h1, h2, hR⟩
  have st : startD 2 4 [.lst o xs, .bl r] = [.lst o xs, .bl r, .off, .off] := rfl
  rw [st]
  unfold w_threes
  have hf : fzL xs = xs := fzL_of fun x hx => (h1 x hx).2
  have hpos : 0 < xs.length := List.length_pos_iff.mpr h0
  obtain ⟨x0, hx0⟩ : ∃ x, xs.head? = some x := by cases xs with
    | nil => exact absurd rfl h0
    | cons a l => exact ⟨a, rfl⟩
  obtain ⟨x1, hx1⟩ : ∃ x, xs.getLast? = some x := ⟨xs.getLast h0, List.getLast?_eq_some_getLast h0⟩
  have m0 := h1 x0 (List.mem_of_mem_head? hx0)
  have m1 := h1 x1 (List.mem_of_mem_getLast? hx1)
  have a0 : L2.atI xs 0 = some x0 := by
    rw [atI_get (by omega) (by omega)]
    rw [List.head?_eq_getElem?, List.getElem?_eq_getElem hpos] at hx0
    exact hx0
  have a1 : L2.atI xs (-1) = some x1 := by
    unfold L2.atI L2.ixN
    rw [List.getLast?_eq_getElem?] at hx1
    rw [if_neg (by decide), if_pos (by omega)]
    show xs[_]? = _
    rw [show ((-1 : Int) + xs.length).toNat = xs.length - 1 by omega]
    exact hx1
  have fi : fzL xs.dropLast = xs.dropLast := fzL_of fun x hx => (h1 x ((List.dropLast_sublist xs).subset hx)).2
  have ft : fzL xs.tail = xs.tail := fzL_of fun x hx => (h1 x (List.mem_of_mem_tail hx)).2
  simp (maxSteps := 2000000) only [x_callZ, x_enumS, x_minD, x_maxD, r_powW, r_mulW, x_izipM, x_glst, x_izip, iz_tup, iz_lst, x_lcV, x_par3, x_lz3, x_lstS, x_star, x_izip3, x_sumL, x_tru, x_rg2, x_metP, x_yes, lo_l, so_l, so_t, tr_int, x_clear, ex_plB, pb_causes, pb_clashes, pb_undone, on_book, x_iseq, is_tup, is_lst, x_seq, x_ifS, x_asg, x_par, x_for, x_gname, x_gnil, x_gcons, x_gtup, x_gixP, x_tup, x_lst, x_cons, x_nil, x_dK, x_op2, x_op1, x_opL, x_ret, x_mov, x_var, x_fz, x_c, x_next, x_drop, x_if, x_and, x_or, x_not, x_chain, x_tchain, x_tcmp, x_tval, x_tand, x_tor, x_tnot, x_isi, x_call, x_args0, x_argsV, x_argsL, x_put0, x_putN, x_putS, x_evN, x_evE, x_ev0, x_evC, x_atN, x_atD, x_metN, x_pn, x_ps, x_sl, x_rg1, x_orT, x_lrg2, x_endR, x_endN, x_outT, x_outF, x_out0, x_keyC, x_keyN, y_int, y_bl, y_str, y_non, y_tup, y_lst, y_frl, y_nil, y_cons, ats_nil, ats_cons, onAt_0, onAt_s, on_tape, on_int, on_str, on_bl, on_non, on_tup, on_lst, on_hole, on_frl, true_and, and_true, and_assoc, List.getElem?_cons_zero, List.getElem?_cons_succ, Option.some.injEq, exists_and_left, exists_eq_left', exists_eq_left, exists_eq_right, exists_eq_right', tape_left, tape_spot, tape_cells, set_spot, set_left, r_int, r_mod, r_fdiv, r_lt, r_le, r_gt, r_ge, r_eq, r_ne, r_eqS, r_neS, r_add, r_addL, r_sub, r_mul, r_mulL, r_pow, r_intB, r_abs, r_neg, r_lenL, r_lenT, r_lenF, r_append, r_popAt, r_extend, r_tyL, r_min, fz_fz, fzL_fz, List.all_cons, List.all_nil, Bool.and_true, Bool.true_and, D.tup.injEq, D.int.injEq, D.bl.injEq, D.str.injEq, D.lst.injEq, List.cons.injEq, List.length_cons, List.length_nil, ex_plN, List.set_cons_succ, List.set_cons_zero, decide_eq_true_eq, Nat.reduceAdd, Nat.reduceLT, Nat.reduceLeDiff, Nat.zero_add, Bool.not_true, Bool.not_false, Bool.not_eq_true, Bool.and_false, Bool.false_and, D.hole.injEq, ite_true, ite_false, if_true, if_false, reduceIte, Bool.false_eq_true, Nat.lt_add_one, reduceCtorEq, false_and, and_false, exists_false, exists_const, ne_eq, not_false_eq_true, true_or, or_true, or_false, false_or, hf]
  unfold threesD at hR
  have ftl : ∀ x, fz x = x → fzL (xs.tail ++ [x]) = xs.tail ++ [x] := fun x hx => fzL_of fun y hy => by
    rcases List.mem_append.mp hy with hy | hy
    · exact (h1 y (List.mem_of_mem_tail hy)).2
    · rw [List.mem_singleton.mp hy]; exact hx
  cases r
  · simp (maxSteps := 2000000) only [x_callZ, x_enumS, x_minD, x_maxD, r_powW, r_mulW, x_izipM, x_glst, x_izip, iz_tup, iz_lst, x_lcV, x_par3, x_lz3, x_lstS, x_star, x_izip3, x_sumL, x_tru, x_rg2, x_metP, x_yes, lo_l, so_l, so_t, tr_int, x_clear, ex_plB, pb_causes, pb_clashes, pb_undone, on_book, x_iseq, is_tup, is_lst, x_seq, x_ifS, x_asg, x_par, x_for, x_gname, x_gnil, x_gcons, x_gtup, x_gixP, x_tup, x_lst, x_cons, x_nil, x_dK, x_op2, x_op1, x_opL, x_ret, x_mov, x_var, x_fz, x_c, x_next, x_drop, x_if, x_and, x_or, x_not, x_chain, x_tchain, x_tcmp, x_tval, x_tand, x_tor, x_tnot, x_isi, x_call, x_args0, x_argsV, x_argsL, x_put0, x_putN, x_putS, x_evN, x_evE, x_ev0, x_evC, x_atN, x_atD, x_metN, x_pn, x_ps, x_sl, x_rg1, x_orT, x_lrg2, x_endR, x_endN, x_outT, x_outF, x_out0, x_keyC, x_keyN, y_int, y_bl, y_str, y_non, y_tup, y_lst, y_frl, y_nil, y_cons, ats_nil, ats_cons, onAt_0, onAt_s, on_tape, on_int, on_str, on_bl, on_non, on_tup, on_lst, on_hole, on_frl, true_and, and_true, and_assoc, List.getElem?_cons_zero, List.getElem?_cons_succ, Option.some.injEq, exists_and_left, exists_eq_left', exists_eq_left, exists_eq_right, exists_eq_right', tape_left, tape_spot, tape_cells, set_spot, set_left, r_int, r_mod, r_fdiv, r_lt, r_le, r_gt, r_ge, r_eq, r_ne, r_eqS, r_neS, r_add, r_addL, r_sub, r_mul, r_mulL, r_pow, r_intB, r_abs, r_neg, r_lenL, r_lenT, r_lenF, r_append, r_popAt, r_extend, r_tyL, r_min, fz_fz, fzL_fz, List.all_cons, List.all_nil, Bool.and_true, Bool.true_and, D.tup.injEq, D.int.injEq, D.bl.injEq, D.str.injEq, D.lst.injEq, List.cons.injEq, List.length_cons, List.length_nil, ex_plN, List.set_cons_succ, List.set_cons_zero, decide_eq_true_eq, Nat.reduceAdd, Nat.reduceLT, Nat.reduceLeDiff, Nat.zero_add, Bool.not_true, Bool.not_false, Bool.not_eq_true, Bool.and_false, Bool.false_and, D.hole.injEq, ite_true, ite_false, if_true, if_false, reduceIte, Bool.false_eq_true, Nat.lt_add_one, reduceCtorEq, false_and, and_false, exists_false, exists_const, ne_eq, not_false_eq_true, true_or, or_true, or_false, false_or, hx0, hx1, Option.getD_some] at hR ⊢
    rw [ix_at a0 m0.2]
    rw [ix_at a1 m1.2]
    simp (maxSteps := 2000000) only [x_callZ, x_enumS, x_minD, x_maxD, r_powW, r_mulW, x_izipM, x_glst, x_izip, iz_tup, iz_lst, x_lcV, x_par3, x_lz3, x_lstS, x_star, x_izip3, x_sumL, x_tru, x_rg2, x_metP, x_yes, lo_l, so_l, so_t, tr_int, x_clear, ex_plB, pb_causes, pb_clashes, pb_undone, on_book, x_iseq, is_tup, is_lst, x_seq, x_ifS, x_asg, x_par, x_for, x_gname, x_gnil, x_gcons, x_gtup, x_gixP, x_tup, x_lst, x_cons, x_nil, x_dK, x_op2, x_op1, x_opL, x_ret, x_mov, x_var, x_fz, x_c, x_next, x_drop, x_if, x_and, x_or, x_not, x_chain, x_tchain, x_tcmp, x_tval, x_tand, x_tor, x_tnot, x_isi, x_call, x_args0, x_argsV, x_argsL, x_put0, x_putN, x_putS, x_evN, x_evE, x_ev0, x_evC, x_atN, x_atD, x_metN, x_pn, x_ps, x_sl, x_rg1, x_orT, x_lrg2, x_endR, x_endN, x_outT, x_outF, x_out0, x_keyC, x_keyN, y_int, y_bl, y_str, y_non, y_tup, y_lst, y_frl, y_nil, y_cons, ats_nil, ats_cons, onAt_0, onAt_s, on_tape, on_int, on_str, on_bl, on_non, on_tup, on_lst, on_hole, on_frl, true_and, and_true, and_assoc, List.getElem?_cons_zero, List.getElem?_cons_succ, Option.some.injEq, exists_and_left, exists_eq_left', exists_eq_left, exists_eq_right, exists_eq_right', tape_left, tape_spot, tape_cells, set_spot, set_left, r_int, r_mod, r_fdiv, r_lt, r_le, r_gt, r_ge, r_eq, r_ne, r_eqS, r_neS, r_add, r_addL, r_sub, r_mul, r_mulL, r_pow, r_intB, r_abs, r_neg, r_lenL, r_lenT, r_lenF, r_append, r_popAt, r_extend, r_tyL, r_min, fz_fz, fzL_fz, List.all_cons, List.all_nil, Bool.and_true, Bool.true_and, D.tup.injEq, D.int.injEq, D.bl.injEq, D.str.injEq, D.lst.injEq, List.cons.injEq, List.length_cons, List.length_nil, ex_plN, List.set_cons_succ, List.set_cons_zero, decide_eq_true_eq, Nat.reduceAdd, Nat.reduceLT, Nat.reduceLeDiff, Nat.zero_add, Bool.not_true, Bool.not_false, Bool.not_eq_true, Bool.and_false, Bool.false_and, D.hole.injEq, ite_true, ite_false, if_true, if_false, reduceIte, Bool.false_eq_true, Nat.lt_add_one, reduceCtorEq, false_and, and_false, exists_false, exists_const, ne_eq, not_false_eq_true, true_or, or_true, or_false, false_or, m0.1, m1.1]
    rw [r_slL hf, cut_init h0]
    simp (maxSteps := 2000000) only [x_callZ, x_enumS, x_minD, x_maxD, r_powW, r_mulW, x_izipM, x_glst, x_izip, iz_tup, iz_lst, x_lcV, x_par3, x_lz3, x_lstS, x_star, x_izip3, x_sumL, x_tru, x_rg2, x_metP, x_yes, lo_l, so_l, so_t, tr_int, x_clear, ex_plB, pb_causes, pb_clashes, pb_undone, on_book, x_iseq, is_tup, is_lst, x_seq, x_ifS, x_asg, x_par, x_for, x_gname, x_gnil, x_gcons, x_gtup, x_gixP, x_tup, x_lst, x_cons, x_nil, x_dK, x_op2, x_op1, x_opL, x_ret, x_mov, x_var, x_fz, x_c, x_next, x_drop, x_if, x_and, x_or, x_not, x_chain, x_tchain, x_tcmp, x_tval, x_tand, x_tor, x_tnot, x_isi, x_call, x_args0, x_argsV, x_argsL, x_put0, x_putN, x_putS, x_evN, x_evE, x_ev0, x_evC, x_atN, x_atD, x_metN, x_pn, x_ps, x_sl, x_rg1, x_orT, x_lrg2, x_endR, x_endN, x_outT, x_outF, x_out0, x_keyC, x_keyN, y_int, y_bl, y_str, y_non, y_tup, y_lst, y_frl, y_nil, y_cons, ats_nil, ats_cons, onAt_0, onAt_s, on_tape, on_int, on_str, on_bl, on_non, on_tup, on_lst, on_hole, on_frl, true_and, and_true, and_assoc, List.getElem?_cons_zero, List.getElem?_cons_succ, Option.some.injEq, exists_and_left, exists_eq_left', exists_eq_left, exists_eq_right, exists_eq_right', tape_left, tape_spot, tape_cells, set_spot, set_left, r_int, r_mod, r_fdiv, r_lt, r_le, r_gt, r_ge, r_eq, r_ne, r_eqS, r_neS, r_add, r_addL, r_sub, r_mul, r_mulL, r_pow, r_intB, r_abs, r_neg, r_lenL, r_lenT, r_lenF, r_append, r_popAt, r_extend, r_tyL, r_min, fz_fz, fzL_fz, List.all_cons, List.all_nil, Bool.and_true, Bool.true_and, D.tup.injEq, D.int.injEq, D.bl.injEq, D.str.injEq, D.lst.injEq, List.cons.injEq, List.length_cons, List.length_nil, ex_plN, List.set_cons_succ, List.set_cons_zero, decide_eq_true_eq, Nat.reduceAdd, Nat.reduceLT, Nat.reduceLeDiff, Nat.zero_add, Bool.not_true, Bool.not_false, Bool.not_eq_true, Bool.and_false, Bool.false_and, D.hole.injEq, ite_true, ite_false, if_true, if_false, reduceIte, Bool.false_eq_true, Nat.lt_add_one, reduceCtorEq, false_and, and_false, exists_false, exists_const, ne_eq, not_false_eq_true, true_or, or_true, or_false, false_or, fi, List.append_nil]
    rw [r_slL hf, cut_tail]
    simp (maxSteps := 2000000) only [x_callZ, x_enumS, x_minD, x_maxD, r_powW, r_mulW, x_izipM, x_glst, x_izip, iz_tup, iz_lst, x_lcV, x_par3, x_lz3, x_lstS, x_star, x_izip3, x_sumL, x_tru, x_rg2, x_metP, x_yes, lo_l, so_l, so_t, tr_int, x_clear, ex_plB, pb_causes, pb_clashes, pb_undone, on_book, x_iseq, is_tup, is_lst, x_seq, x_ifS, x_asg, x_par, x_for, x_gname, x_gnil, x_gcons, x_gtup, x_gixP, x_tup, x_lst, x_cons, x_nil, x_dK, x_op2, x_op1, x_opL, x_ret, x_mov, x_var, x_fz, x_c, x_next, x_drop, x_if, x_and, x_or, x_not, x_chain, x_tchain, x_tcmp, x_tval, x_tand, x_tor, x_tnot, x_isi, x_call, x_args0, x_argsV, x_argsL, x_put0, x_putN, x_putS, x_evN, x_evE, x_ev0, x_evC, x_atN, x_atD, x_metN, x_pn, x_ps, x_sl, x_rg1, x_orT, x_lrg2, x_endR, x_endN, x_outT, x_outF, x_out0, x_keyC, x_keyN, y_int, y_bl, y_str, y_non, y_tup, y_lst, y_frl, y_nil, y_cons, ats_nil, ats_cons, onAt_0, onAt_s, on_tape, on_int, on_str, on_bl, on_non, on_tup, on_lst, on_hole, on_frl, true_and, and_true, and_assoc, List.getElem?_cons_zero, List.getElem?_cons_succ, Option.some.injEq, exists_and_left, exists_eq_left', exists_eq_left, exists_eq_right, exists_eq_right', tape_left, tape_spot, tape_cells, set_spot, set_left, r_int, r_mod, r_fdiv, r_lt, r_le, r_gt, r_ge, r_eq, r_ne, r_eqS, r_neS, r_add, r_addL, r_sub, r_mul, r_mulL, r_pow, r_intB, r_abs, r_neg, r_lenL, r_lenT, r_lenF, r_append, r_popAt, r_extend, r_tyL, r_min, fz_fz, fzL_fz, List.all_cons, List.all_nil, Bool.and_true, Bool.true_and, D.tup.injEq, D.int.injEq, D.bl.injEq, D.str.injEq, D.lst.injEq, List.cons.injEq, List.length_cons, List.length_nil, ex_plN, List.set_cons_succ, List.set_cons_zero, decide_eq_true_eq, Nat.reduceAdd, Nat.reduceLT, Nat.reduceLeDiff, Nat.zero_add, Bool.not_true, Bool.not_false, Bool.not_eq_true, Bool.and_false, Bool.false_and, D.hole.injEq, ite_true, ite_false, if_true, if_false, reduceIte, Bool.false_eq_true, Nat.lt_add_one, reduceCtorEq, false_and, and_false, exists_false, exists_const, ne_eq, not_false_eq_true, true_or, or_true, or_false, false_or, ft, m0.2, m1.2, ftl _ m1.2]
    refine ⟨sizeOk (by rw [List.length_dropLast]; omega), sizeOk (by rw [List.length_append, List.length_tail]; simp; omega), hR⟩
  · simp (maxSteps := 2000000) only [x_callZ, x_enumS, x_minD, x_maxD, r_powW, r_mulW, x_izipM, x_glst, x_izip, iz_tup, iz_lst, x_lcV, x_par3, x_lz3, x_lstS, x_star, x_izip3, x_sumL, x_tru, x_rg2, x_metP, x_yes, lo_l, so_l, so_t, tr_int, x_clear, ex_plB, pb_causes, pb_clashes, pb_undone, on_book, x_iseq, is_tup, is_lst, x_seq, x_ifS, x_asg, x_par, x_for, x_gname, x_gnil, x_gcons, x_gtup, x_gixP, x_tup, x_lst, x_cons, x_nil, x_dK, x_op2, x_op1, x_opL, x_ret, x_mov, x_var, x_fz, x_c, x_next, x_drop, x_if, x_and, x_or, x_not, x_chain, x_tchain, x_tcmp, x_tval, x_tand, x_tor, x_tnot, x_isi, x_call, x_args0, x_argsV, x_argsL, x_put0, x_putN, x_putS, x_evN, x_evE, x_ev0, x_evC, x_atN, x_atD, x_metN, x_pn, x_ps, x_sl, x_rg1, x_orT, x_lrg2, x_endR, x_endN, x_outT, x_outF, x_out0, x_keyC, x_keyN, y_int, y_bl, y_str, y_non, y_tup, y_lst, y_frl, y_nil, y_cons, ats_nil, ats_cons, onAt_0, onAt_s, on_tape, on_int, on_str, on_bl, on_non, on_tup, on_lst, on_hole, on_frl, true_and, and_true, and_assoc, List.getElem?_cons_zero, List.getElem?_cons_succ, Option.some.injEq, exists_and_left, exists_eq_left', exists_eq_left, exists_eq_right, exists_eq_right', tape_left, tape_spot, tape_cells, set_spot, set_left, r_int, r_mod, r_fdiv, r_lt, r_le, r_gt, r_ge, r_eq, r_ne, r_eqS, r_neS, r_add, r_addL, r_sub, r_mul, r_mulL, r_pow, r_intB, r_abs, r_neg, r_lenL, r_lenT, r_lenF, r_append, r_popAt, r_extend, r_tyL, r_min, fz_fz, fzL_fz, List.all_cons, List.all_nil, Bool.and_true, Bool.true_and, D.tup.injEq, D.int.injEq, D.bl.injEq, D.str.injEq, D.lst.injEq, List.cons.injEq, List.length_cons, List.length_nil, ex_plN, List.set_cons_succ, List.set_cons_zero, decide_eq_true_eq, Nat.reduceAdd, Nat.reduceLT, Nat.reduceLeDiff, Nat.zero_add, Bool.not_true, Bool.not_false, Bool.not_eq_true, Bool.and_false, Bool.false_and, D.hole.injEq, ite_true, ite_false, if_true, if_false, reduceIte, Bool.false_eq_true, Nat.lt_add_one, reduceCtorEq, false_and, and_false, exists_false, exists_const, ne_eq, not_false_eq_true, true_or, or_true, or_false, false_or, hx0, hx1, Option.getD_some] at hR ⊢
    rw [ix_at a1 m1.2]
    rw [ix_at a0 m0.2]
    simp (maxSteps := 2000000) only [x_callZ, x_enumS, x_minD, x_maxD, r_powW, r_mulW, x_izipM, x_glst, x_izip, iz_tup, iz_lst, x_lcV, x_par3, x_lz3, x_lstS, x_star, x_izip3, x_sumL, x_tru, x_rg2, x_metP, x_yes, lo_l, so_l, so_t, tr_int, x_clear, ex_plB, pb_causes, pb_clashes, pb_undone, on_book, x_iseq, is_tup, is_lst, x_seq, x_ifS, x_asg, x_par, x_for, x_gname, x_gnil, x_gcons, x_gtup, x_gixP, x_tup, x_lst, x_cons, x_nil, x_dK, x_op2, x_op1, x_opL, x_ret, x_mov, x_var, x_fz, x_c, x_next, x_drop, x_if, x_and, x_or, x_not, x_chain, x_tchain, x_tcmp, x_tval, x_tand, x_tor, x_tnot, x_isi, x_call, x_args0, x_argsV, x_argsL, x_put0, x_putN, x_putS, x_evN, x_evE, x_ev0, x_evC, x_atN, x_atD, x_metN, x_pn, x_ps, x_sl, x_rg1, x_orT, x_lrg2, x_endR, x_endN, x_outT, x_outF, x_out0, x_keyC, x_keyN, y_int, y_bl, y_str, y_non, y_tup, y_lst, y_frl, y_nil, y_cons, ats_nil, ats_cons, onAt_0, onAt_s, on_tape, on_int, on_str, on_bl, on_non, on_tup, on_lst, on_hole, on_frl, true_and, and_true, and_assoc, List.getElem?_cons_zero, List.getElem?_cons_succ, Option.some.injEq, exists_and_left, exists_eq_left', exists_eq_left, exists_eq_right, exists_eq_right', tape_left, tape_spot, tape_cells, set_spot, set_left, r_int, r_mod, r_fdiv, r_lt, r_le, r_gt, r_ge, r_eq, r_ne, r_eqS, r_neS, r_add, r_addL, r_sub, r_mul, r_mulL, r_pow, r_intB, r_abs, r_neg, r_lenL, r_lenT, r_lenF, r_append, r_popAt, r_extend, r_tyL, r_min, fz_fz, fzL_fz, List.all_cons, List.all_nil, Bool.and_true, Bool.true_and, D.tup.injEq, D.int.injEq, D.bl.injEq, D.str.injEq, D.lst.injEq, List.cons.injEq, List.length_cons, List.length_nil, ex_plN, List.set_cons_succ, List.set_cons_zero, decide_eq_true_eq, Nat.reduceAdd, Nat.reduceLT, Nat.reduceLeDiff, Nat.zero_add, Bool.not_true, Bool.not_false, Bool.not_eq_true, Bool.and_false, Bool.false_and, D.hole.injEq, ite_true, ite_false, if_true, if_false, reduceIte, Bool.false_eq_true, Nat.lt_add_one, reduceCtorEq, false_and, and_false, exists_false, exists_const, ne_eq, not_false_eq_true, true_or, or_true, or_false, false_or, m0.1, m1.1]
    rw [r_slL hf, cut_init h0]
    simp (maxSteps := 2000000) only [x_callZ, x_enumS, x_minD, x_maxD, r_powW, r_mulW, x_izipM, x_glst, x_izip, iz_tup, iz_lst, x_lcV, x_par3, x_lz3, x_lstS, x_star, x_izip3, x_sumL, x_tru, x_rg2, x_metP, x_yes, lo_l, so_l, so_t, tr_int, x_clear, ex_plB, pb_causes, pb_clashes, pb_undone, on_book, x_iseq, is_tup, is_lst, x_seq, x_ifS, x_asg, x_par, x_for, x_gname, x_gnil, x_gcons, x_gtup, x_gixP, x_tup, x_lst, x_cons, x_nil, x_dK, x_op2, x_op1, x_opL, x_ret, x_mov, x_var, x_fz, x_c, x_next, x_drop, x_if, x_and, x_or, x_not, x_chain, x_tchain, x_tcmp, x_tval, x_tand, x_tor, x_tnot, x_isi, x_call, x_args0, x_argsV, x_argsL, x_put0, x_putN, x_putS, x_evN, x_evE, x_ev0, x_evC, x_atN, x_atD, x_metN, x_pn, x_ps, x_sl, x_rg1, x_orT, x_lrg2, x_endR, x_endN, x_outT, x_outF, x_out0, x_keyC, x_keyN, y_int, y_bl, y_str, y_non, y_tup, y_lst, y_frl, y_nil, y_cons, ats_nil, ats_cons, onAt_0, onAt_s, on_tape, on_int, on_str, on_bl, on_non, on_tup, on_lst, on_hole, on_frl, true_and, and_true, and_assoc, List.getElem?_cons_zero, List.getElem?_cons_succ, Option.some.injEq, exists_and_left, exists_eq_left', exists_eq_left, exists_eq_right, exists_eq_right', tape_left, tape_spot, tape_cells, set_spot, set_left, r_int, r_mod, r_fdiv, r_lt, r_le, r_gt, r_ge, r_eq, r_ne, r_eqS, r_neS, r_add, r_addL, r_sub, r_mul, r_mulL, r_pow, r_intB, r_abs, r_neg, r_lenL, r_lenT, r_lenF, r_append, r_popAt, r_extend, r_tyL, r_min, fz_fz, fzL_fz, List.all_cons, List.all_nil, Bool.and_true, Bool.true_and, D.tup.injEq, D.int.injEq, D.bl.injEq, D.str.injEq, D.lst.injEq, List.cons.injEq, List.length_cons, List.length_nil, ex_plN, List.set_cons_succ, List.set_cons_zero, decide_eq_true_eq, Nat.reduceAdd, Nat.reduceLT, Nat.reduceLeDiff, Nat.zero_add, Bool.not_true, Bool.not_false, Bool.not_eq_true, Bool.and_false, Bool.false_and, D.hole.injEq, ite_true, ite_false, if_true, if_false, reduceIte, Bool.false_eq_true, Nat.lt_add_one, reduceCtorEq, false_and, and_false, exists_false, exists_const, ne_eq, not_false_eq_true, true_or, or_true, or_false, false_or, fi, List.append_nil]
    rw [r_slL hf, cut_tail]
    simp (maxSteps := 2000000) only [x_callZ, x_enumS, x_minD, x_maxD, r_powW, r_mulW, x_izipM, x_glst, x_izip, iz_tup, iz_lst, x_lcV, x_par3, x_lz3, x_lstS, x_star, x_izip3, x_sumL, x_tru, x_rg2, x_metP, x_yes, lo_l, so_l, so_t, tr_int, x_clear, ex_plB, pb_causes, pb_clashes, pb_undone, on_book, x_iseq, is_tup, is_lst, x_seq, x_ifS, x_asg, x_par, x_for, x_gname, x_gnil, x_gcons, x_gtup, x_gixP, x_tup, x_lst, x_cons, x_nil, x_dK, x_op2, x_op1, x_opL, x_ret, x_mov, x_var, x_fz, x_c, x_next, x_drop, x_if, x_and, x_or, x_not, x_chain, x_tchain, x_tcmp, x_tval, x_tand, x_tor, x_tnot, x_isi, x_call, x_args0, x_argsV, x_argsL, x_put0, x_putN, x_putS, x_evN, x_evE, x_ev0, x_evC, x_atN, x_atD, x_metN, x_pn, x_ps, x_sl, x_rg1, x_orT, x_lrg2, x_endR, x_endN, x_outT, x_outF, x_out0, x_keyC, x_keyN, y_int, y_bl, y_str, y_non, y_tup, y_lst, y_frl, y_nil, y_cons, ats_nil, ats_cons, onAt_0, onAt_s, on_tape, on_int, on_str, on_bl, on_non, on_tup, on_lst, on_hole, on_frl, true_and, and_true, and_assoc, List.getElem?_cons_zero, List.getElem?_cons_succ, Option.some.injEq, exists_and_left, exists_eq_left', exists_eq_left, exists_eq_right, exists_eq_right', tape_left, tape_spot, tape_cells, set_spot, set_left, r_int, r_mod, r_fdiv, r_lt, r_le, r_gt, r_ge, r_eq, r_ne, r_eqS, r_neS, r_add, r_addL, r_sub, r_mul, r_mulL, r_pow, r_intB, r_abs, r_neg, r_lenL, r_lenT, r_lenF, r_append, r_popAt, r_extend, r_tyL, r_min, fz_fz, fzL_fz, List.all_cons, List.all_nil, Bool.and_true, Bool.true_and, D.tup.injEq, D.int.injEq, D.bl.injEq, D.str.injEq, D.lst.injEq, List.cons.injEq, List.length_cons, List.length_nil, ex_plN, List.set_cons_succ, List.set_cons_zero, decide_eq_true_eq, Nat.reduceAdd, Nat.reduceLT, Nat.reduceLeDiff, Nat.zero_add, Bool.not_true, Bool.not_false, Bool.not_eq_true, Bool.and_false, Bool.false_and, D.hole.injEq, ite_true, ite_false, if_true, if_false, reduceIte, Bool.false_eq_true, Nat.lt_add_one, reduceCtorEq, false_and, and_false, exists_false, exists_const, ne_eq, not_false_eq_true, true_or, or_true, or_false, false_or, ft, m0.2, m1.2, ftl _ m0.2]
    refine ⟨sizeOk (by rw [List.length_dropLast]; omega), sizeOk (by rw [List.length_append, List.length_tail]; simp; omega), hR⟩
end Q

namespace Q
open PySem PySem.Spec PyProof.Rows L2 M Z3
theorem wp_beat : ∀ ds R, ds.length = 2 → S_beat ds R → w_beat (endsB [false, false] R) (startD 2 5 ds) := by
  rintro ds R hl ⟨o, S, r, k, rfl, h0, h1, h2, h3, hR⟩
  have st : startD 2 5 [.lst o (S.map spotD), .bl r] = [.lst o (S.map spotD), .bl r, .off, .off, .off] := rfl
  rw [st]
  unfold w_beat
  simp (maxSteps := 2000000) only [x_callZ, x_enumS, x_minD, x_maxD, r_powW, r_mulW, x_izipM, x_glst, x_izip, iz_tup, iz_lst, x_lcV, x_par3, x_lz3, x_lstS, x_star, x_izip3, x_sumL, x_tru, x_rg2, x_metP, x_yes, lo_l, so_l, so_t, tr_int, x_clear, ex_plB, pb_causes, pb_clashes, pb_undone, on_book, x_iseq, is_tup, is_lst, x_seq, x_ifS, x_asg, x_par, x_for, x_gname, x_gnil, x_gcons, x_gtup, x_gixP, x_tup, x_lst, x_cons, x_nil, x_dK, x_op2, x_op1, x_opL, x_ret, x_mov, x_var, x_fz, x_c, x_next, x_drop, x_if, x_and, x_or, x_not, x_chain, x_tchain, x_tcmp, x_tval, x_tand, x_tor, x_tnot, x_isi, x_call, x_args0, x_argsV, x_argsL, x_put0, x_putN, x_putS, x_evN, x_evE, x_ev0, x_evC, x_atN, x_atD, x_metN, x_pn, x_ps, x_sl, x_rg1, x_orT, x_lrg2, x_endR, x_endN, x_outT, x_outF, x_out0, x_keyC, x_keyN, y_int, y_bl, y_str, y_non, y_tup, y_lst, y_frl, y_nil, y_cons, ats_nil, ats_cons, onAt_0, onAt_s, on_tape, on_int, on_str, on_bl, on_non, on_tup, on_lst, on_hole, on_frl, true_and, and_true, and_assoc, List.getElem?_cons_zero, List.getElem?_cons_succ, Option.some.injEq, exists_and_left, exists_eq_left', exists_eq_left, exists_eq_right, exists_eq_right', tape_left, tape_spot, tape_cells, set_spot, set_left, r_int, r_mod, r_fdiv, r_lt, r_le, r_gt, r_ge, r_eq, r_ne, r_eqS, r_neS, r_add, r_addL, r_sub, r_mul, r_mulL, r_pow, r_intB, r_abs, r_neg, r_lenL, r_lenT, r_lenF, r_append, r_popAt, r_extend, r_tyL, r_min, fz_fz, fzL_fz, List.all_cons, List.all_nil, Bool.and_true, Bool.true_and, D.tup.injEq, D.int.injEq, D.bl.injEq, D.str.injEq, D.lst.injEq, List.cons.injEq, List.length_cons, List.length_nil, ex_plN, List.set_cons_succ, List.set_cons_zero, decide_eq_true_eq, Nat.reduceAdd, Nat.reduceLT, Nat.reduceLeDiff, Nat.zero_add, Bool.not_true, Bool.not_false, Bool.not_eq_true, Bool.and_false, Bool.false_and, D.hole.injEq, ite_true, ite_false, if_true, if_false, reduceIte, Bool.false_eq_true, Nat.lt_add_one, reduceCtorEq, false_and, and_false, exists_false, exists_const, ne_eq, not_false_eq_true, true_or, or_true, or_false, false_or, fzL_spots]
  refine ⟨false, S.map spotD, r, rfl, by simpa using h0, fun x hx => by obtain ⟨σ, _, rfl⟩ := List.mem_map.mp hx; exact ⟨rfl, fz_spot⟩, by rw [List.length_map]; omega, ?_⟩
  have et : threesD (S.map spotD) r = (trip (((if r then S.getLast? else S.head?).getD []) :: S.dropLast) S (S.tail ++ [((if r then S.head? else S.getLast?).getD [])])).map fun t => D.tup [spotD t.1, spotD t.2.1, spotD t.2.2] := by
    obtain ⟨x0, hx0⟩ : ∃ x, S.head? = some x := by cases S with
      | nil => exact absurd rfl h0
      | cons a l => exact ⟨a, rfl⟩
    obtain ⟨x1, hx1⟩ : ∃ x, S.getLast? = some x := ⟨S.getLast h0, List.getLast?_eq_some_getLast h0⟩
    rw [← zip3_map]
    unfold threesD
    cases r <;> simp [hx0, hx1, List.map_dropLast, List.map_tail]
  rw [et]
  have hT : ∀ t ∈ trip (((if r then S.getLast? else S.head?).getD []) :: S.dropLast) S (S.tail ++ [((if r then S.head? else S.getLast?).getD [])]), t.1 ∈ S ∧ t.2.1 ∈ S ∧ t.2.2 ∈ S := fun t ht => by
    obtain ⟨q1, q2, q3⟩ := trip_mem ht
    have hx0 : (S.head?).getD [] ∈ S := by cases S with
      | nil => exact absurd rfl h0
      | cons a l => exact List.mem_cons_self
    have hx1 : (S.getLast?).getD [] ∈ S := by
      rw [List.getLast?_eq_some_getLast h0]
      exact List.getLast_mem h0
    refine ⟨?_, q2, ?_⟩
    · rcases List.mem_cons.mp q1 with e | e
      · rw [e]; cases r <;> assumption
      · exact (List.dropLast_sublist S).subset e
    · rcases List.mem_append.mp q3 with e | e
      · exact List.mem_of_mem_tail e
      · rw [List.mem_singleton.mp e]; cases r <;> assumption
  have hB : (beatL S r).map spotD = (trip (((if r then S.getLast? else S.head?).getD []) :: S.dropLast) S (S.tail ++ [((if r then S.head? else S.getLast?).getD [])])).map fun t => spotD (meetL t.1 t.2.1 t.2.2) := by
    unfold beatL
    rw [z3_trip, List.map_map]
    rfl
  rw [hB] at hR
  have hlen : (trip (((if r then S.getLast? else S.head?).getD []) :: S.dropLast) S (S.tail ++ [((if r then S.head? else S.getLast?).getD [])])).length ≤ S.length := by
    rw [trip_len]; omega
  generalize trip (((if r then S.getLast? else S.head?).getD []) :: S.dropLast) S (S.tail ++ [((if r then S.head? else S.getLast?).getD [])]) = T at hT hR hlen
  simp (maxSteps := 2000000) only [x_callZ, x_enumS, x_minD, x_maxD, r_powW, r_mulW, x_izipM, x_glst, x_izip, iz_tup, iz_lst, x_lcV, x_par3, x_lz3, x_lstS, x_star, x_izip3, x_sumL, x_tru, x_rg2, x_metP, x_yes, lo_l, so_l, so_t, tr_int, x_clear, ex_plB, pb_causes, pb_clashes, pb_undone, on_book, x_iseq, is_tup, is_lst, x_seq, x_ifS, x_asg, x_par, x_for, x_gname, x_gnil, x_gcons, x_gtup, x_gixP, x_tup, x_lst, x_cons, x_nil, x_dK, x_op2, x_op1, x_opL, x_ret, x_mov, x_var, x_fz, x_c, x_next, x_drop, x_if, x_and, x_or, x_not, x_chain, x_tchain, x_tcmp, x_tval, x_tand, x_tor, x_tnot, x_isi, x_call, x_args0, x_argsV, x_argsL, x_put0, x_putN, x_putS, x_evN, x_evE, x_ev0, x_evC, x_atN, x_atD, x_metN, x_pn, x_ps, x_sl, x_rg1, x_orT, x_lrg2, x_endR, x_endN, x_outT, x_outF, x_out0, x_keyC, x_keyN, y_int, y_bl, y_str, y_non, y_tup, y_lst, y_frl, y_nil, y_cons, ats_nil, ats_cons, onAt_0, onAt_s, on_tape, on_int, on_str, on_bl, on_non, on_tup, on_lst, on_hole, on_frl, true_and, and_true, and_assoc, List.getElem?_cons_zero, List.getElem?_cons_succ, Option.some.injEq, exists_and_left, exists_eq_left', exists_eq_left, exists_eq_right, exists_eq_right', tape_left, tape_spot, tape_cells, set_spot, set_left, r_int, r_mod, r_fdiv, r_lt, r_le, r_gt, r_ge, r_eq, r_ne, r_eqS, r_neS, r_add, r_addL, r_sub, r_mul, r_mulL, r_pow, r_intB, r_abs, r_neg, r_lenL, r_lenT, r_lenF, r_append, r_popAt, r_extend, r_tyL, r_min, fz_fz, fzL_fz, List.all_cons, List.all_nil, Bool.and_true, Bool.true_and, D.tup.injEq, D.int.injEq, D.bl.injEq, D.str.injEq, D.lst.injEq, List.cons.injEq, List.length_cons, List.length_nil, ex_plN, List.set_cons_succ, List.set_cons_zero, decide_eq_true_eq, Nat.reduceAdd, Nat.reduceLT, Nat.reduceLeDiff, Nat.zero_add, Bool.not_true, Bool.not_false, Bool.not_eq_true, Bool.and_false, Bool.false_and, D.hole.injEq, ite_true, ite_false, if_true, if_false, reduceIte, Bool.false_eq_true, Nat.lt_add_one, reduceCtorEq, false_and, and_false, exists_false, exists_const, ne_eq, not_false_eq_true, true_or, or_true, or_false, false_or, List.length_map]
  refine ⟨fzL_of fun x hx => by obtain ⟨t, _, rfl⟩ := List.mem_map.mp hx; show D.tup (fzL [spotD _, spotD _, spotD _]) = _; rw [show [spotD t.1, spotD t.2.1, spotD t.2.2] = [t.1, t.2.1, t.2.2].map spotD from rfl, fzL_spots], sizeOk (by omega), by decide, ?_⟩
  refine lc_over _ _ (fun t => spotD (meetL t.1 t.2.1 t.2.2)) (fun s => s = [.lst false (S.map spotD), .bl r, .off, .off, .off]) rfl ?_ ?_
  · rintro j ⟨a, b, c⟩ ha s rfl K hK
    obtain ⟨ma, mb, mc⟩ := hT _ (List.mem_of_getElem? ha)
    have os : ∀ σ, on (spotD σ) = true := fun _ => rfl
    simp (maxSteps := 2000000) only [x_callZ, x_enumS, x_minD, x_maxD, r_powW, r_mulW, x_izipM, x_glst, x_izip, iz_tup, iz_lst, x_lcV, x_par3, x_lz3, x_lstS, x_star, x_izip3, x_sumL, x_tru, x_rg2, x_metP, x_yes, lo_l, so_l, so_t, tr_int, x_clear, ex_plB, pb_causes, pb_clashes, pb_undone, on_book, x_iseq, is_tup, is_lst, x_seq, x_ifS, x_asg, x_par, x_for, x_gname, x_gnil, x_gcons, x_gtup, x_gixP, x_tup, x_lst, x_cons, x_nil, x_dK, x_op2, x_op1, x_opL, x_ret, x_mov, x_var, x_fz, x_c, x_next, x_drop, x_if, x_and, x_or, x_not, x_chain, x_tchain, x_tcmp, x_tval, x_tand, x_tor, x_tnot, x_isi, x_call, x_args0, x_argsV, x_argsL, x_put0, x_putN, x_putS, x_evN, x_evE, x_ev0, x_evC, x_atN, x_atD, x_metN, x_pn, x_ps, x_sl, x_rg1, x_orT, x_lrg2, x_endR, x_endN, x_outT, x_outF, x_out0, x_keyC, x_keyN, y_int, y_bl, y_str, y_non, y_tup, y_lst, y_frl, y_nil, y_cons, ats_nil, ats_cons, onAt_0, onAt_s, on_tape, on_int, on_str, on_bl, on_non, on_tup, on_lst, on_hole, on_frl, true_and, and_true, and_assoc, List.getElem?_cons_zero, List.getElem?_cons_succ, Option.some.injEq, exists_and_left, exists_eq_left', exists_eq_left, exists_eq_right, exists_eq_right', tape_left, tape_spot, tape_cells, set_spot, set_left, r_int, r_mod, r_fdiv, r_lt, r_le, r_gt, r_ge, r_eq, r_ne, r_eqS, r_neS, r_add, r_addL, r_sub, r_mul, r_mulL, r_pow, r_intB, r_abs, r_neg, r_lenL, r_lenT, r_lenF, r_append, r_popAt, r_extend, r_tyL, r_min, fz_fz, fzL_fz, List.all_cons, List.all_nil, Bool.and_true, Bool.true_and, D.tup.injEq, D.int.injEq, D.bl.injEq, D.str.injEq, D.lst.injEq, List.cons.injEq, List.length_cons, List.length_nil, ex_plN, List.set_cons_succ, List.set_cons_zero, decide_eq_true_eq, Nat.reduceAdd, Nat.reduceLT, Nat.reduceLeDiff, Nat.zero_add, Bool.not_true, Bool.not_false, Bool.not_eq_true, Bool.and_false, Bool.false_and, D.hole.injEq, ite_true, ite_false, if_true, if_false, reduceIte, Bool.false_eq_true, Nat.lt_add_one, reduceCtorEq, false_and, and_false, exists_false, exists_const, ne_eq, not_false_eq_true, true_or, or_true, or_false, false_or, fz_spot, os]
    refine ⟨a, b, c, rfl, (h2 a ma).trans (h2 b mb).symm, (h2 a ma).trans (h2 c mc).symm, by have := h2 a ma; omega, ?_⟩
    simp (maxSteps := 2000000) only [x_callZ, x_enumS, x_minD, x_maxD, r_powW, r_mulW, x_izipM, x_glst, x_izip, iz_tup, iz_lst, x_lcV, x_par3, x_lz3, x_lstS, x_star, x_izip3, x_sumL, x_tru, x_rg2, x_metP, x_yes, lo_l, so_l, so_t, tr_int, x_clear, ex_plB, pb_causes, pb_clashes, pb_undone, on_book, x_iseq, is_tup, is_lst, x_seq, x_ifS, x_asg, x_par, x_for, x_gname, x_gnil, x_gcons, x_gtup, x_gixP, x_tup, x_lst, x_cons, x_nil, x_dK, x_op2, x_op1, x_opL, x_ret, x_mov, x_var, x_fz, x_c, x_next, x_drop, x_if, x_and, x_or, x_not, x_chain, x_tchain, x_tcmp, x_tval, x_tand, x_tor, x_tnot, x_isi, x_call, x_args0, x_argsV, x_argsL, x_put0, x_putN, x_putS, x_evN, x_evE, x_ev0, x_evC, x_atN, x_atD, x_metN, x_pn, x_ps, x_sl, x_rg1, x_orT, x_lrg2, x_endR, x_endN, x_outT, x_outF, x_out0, x_keyC, x_keyN, y_int, y_bl, y_str, y_non, y_tup, y_lst, y_frl, y_nil, y_cons, ats_nil, ats_cons, onAt_0, onAt_s, on_tape, on_int, on_str, on_bl, on_non, on_tup, on_lst, on_hole, on_frl, true_and, and_true, and_assoc, List.getElem?_cons_zero, List.getElem?_cons_succ, Option.some.injEq, exists_and_left, exists_eq_left', exists_eq_left, exists_eq_right, exists_eq_right', tape_left, tape_spot, tape_cells, set_spot, set_left, r_int, r_mod, r_fdiv, r_lt, r_le, r_gt, r_ge, r_eq, r_ne, r_eqS, r_neS, r_add, r_addL, r_sub, r_mul, r_mulL, r_pow, r_intB, r_abs, r_neg, r_lenL, r_lenT, r_lenF, r_append, r_popAt, r_extend, r_tyL, r_min, fz_fz, fzL_fz, List.all_cons, List.all_nil, Bool.and_true, Bool.true_and, D.tup.injEq, D.int.injEq, D.bl.injEq, D.str.injEq, D.lst.injEq, List.cons.injEq, List.length_cons, List.length_nil, ex_plN, List.set_cons_succ, List.set_cons_zero, decide_eq_true_eq, Nat.reduceAdd, Nat.reduceLT, Nat.reduceLeDiff, Nat.zero_add, Bool.not_true, Bool.not_false, Bool.not_eq_true, Bool.and_false, Bool.false_and, D.hole.injEq, ite_true, ite_false, if_true, if_false, reduceIte, Bool.false_eq_true, Nat.lt_add_one, reduceCtorEq, false_and, and_false, exists_false, exists_const, ne_eq, not_false_eq_true, true_or, or_true, or_false, false_or, fz_spot, os]
    exact hK [.lst false (S.map spotD), .bl r, spotD a, spotD b, spotD c] rfl
  · rintro s rfl
    simp only [restore, unset, x_callZ, x_enumS, x_minD, x_maxD, r_powW, r_mulW, x_izipM, x_glst, x_izip, iz_tup, iz_lst, x_lcV, x_par3, x_lz3, x_lstS, x_star, x_izip3, x_sumL, x_tru, x_rg2, x_metP, x_yes, lo_l, so_l, so_t, tr_int, x_clear, ex_plB, pb_causes, pb_clashes, pb_undone, on_book, x_iseq, is_tup, is_lst, x_seq, x_ifS, x_asg, x_par, x_for, x_gname, x_gnil, x_gcons, x_gtup, x_gixP, x_tup, x_lst, x_cons, x_nil, x_dK, x_op2, x_op1, x_opL, x_ret, x_mov, x_var, x_fz, x_c, x_next, x_drop, x_if, x_and, x_or, x_not, x_chain, x_tchain, x_tcmp, x_tval, x_tand, x_tor, x_tnot, x_isi, x_call, x_args0, x_argsV, x_argsL, x_put0, x_putN, x_putS, x_evN, x_evE, x_ev0, x_evC, x_atN, x_atD, x_metN, x_pn, x_ps, x_sl, x_rg1, x_orT, x_lrg2, x_endR, x_endN, x_outT, x_outF, x_out0, x_keyC, x_keyN, y_int, y_bl, y_str, y_non, y_tup, y_lst, y_frl, y_nil, y_cons, ats_nil, ats_cons, onAt_0, onAt_s, on_tape, on_int, on_str, on_bl, on_non, on_tup, on_lst, on_hole, on_frl, true_and, and_true, and_assoc, List.getElem?_cons_zero, List.getElem?_cons_succ, Option.some.injEq, exists_and_left, exists_eq_left', exists_eq_left, exists_eq_right, exists_eq_right', tape_left, tape_spot, tape_cells, set_spot, set_left, r_int, r_mod, r_fdiv, r_lt, r_le, r_gt, r_ge, r_eq, r_ne, r_eqS, r_neS, r_add, r_addL, r_sub, r_mul, r_mulL, r_pow, r_intB, r_abs, r_neg, r_lenL, r_lenT, r_lenF, r_append, r_popAt, r_extend, r_tyL, r_min, fz_fz, fzL_fz, List.all_cons, List.all_nil, Bool.and_true, Bool.true_and, D.tup.injEq, D.int.injEq, D.bl.injEq, D.str.injEq, D.lst.injEq, List.cons.injEq, List.length_cons, List.length_nil, ex_plN, List.set_cons_succ, List.set_cons_zero, decide_eq_true_eq, Nat.reduceAdd, Nat.reduceLT, Nat.reduceLeDiff, Nat.zero_add, Bool.not_true, Bool.not_false, Bool.not_eq_true, Bool.and_false, Bool.false_and, D.hole.injEq, ite_true, ite_false, if_true, if_false, reduceIte, Bool.false_eq_true, Nat.lt_add_one, reduceCtorEq, false_and, and_false, exists_false, exists_const, ne_eq, not_false_eq_true, true_or, or_true, or_false, false_or, List.getD_eq_getElem?_getD, Option.getD_some]
    exact hR
end Q

namespace Q
open PySem PySem.Spec PyProof.Rows L2 M Z3
theorem range_map {n : Nat} : rangeD 0 n = (List.range n).map fun (j : Nat) => D.int (0 + (j : Int)) := rfl
theorem meetL_len {x y z : List Int} (h1 : x.length = y.length) (h2 : x.length = z.length) : (meetL x y z).length = x.length := by
  unfold meetL
  rw [z3_len]
  omega
theorem t3_0 {a b c : Int} {Q : D → Prop} : o_ix (.tup [.int a, .int b, .int c]) (.int 0) Q ↔ Q (.int a) := by
  constructor
  · rintro ⟨i, d, e1, e2, _, q⟩; cases e1; cases e2; exact q
  · intro q; exact ⟨_, _, rfl, rfl, rfl, q⟩
theorem t3_1 {a b c : Int} {Q : D → Prop} : o_ix (.tup [.int a, .int b, .int c]) (.int 1) Q ↔ Q (.int b) := by
  constructor
  · rintro ⟨i, d, e1, e2, _, q⟩; cases e1; cases e2; exact q
  · intro q; exact ⟨_, _, rfl, rfl, rfl, q⟩
theorem t3_s {a b c : Int} {Q : D → Prop} : o_sl (.tup [.int a, .int b, .int c]) (some 1) none Q ↔ Q (.tup [.int b, .int c]) := by
  constructor
  · rintro ⟨_, q⟩; exact q
  · intro q; exact ⟨rfl, q⟩
section
variable {E : DEnds} {a0 a1 a2 a4 a5 a6 a7 a11 a12 : D} {S : List (List Int)} {dus : List D} {o o2 : Bool} {k : Nat} {a b σ : List Int}
theorem law1 (hd : dus.length ≤ 60) (q : E.nx [a0, a1, a2, .lst o (S.map spotD), a4, a5, a6, a7, .lst true (dus ++ [spotD (meetL a σ b)]), .int k, .lst o2 [spotD a, spotD b], .lst false ((trip a σ b).map fun t => D.tup [.int t.1, .int t.2.1, .int t.2.2]), a12, .off, .off, .off, .off]) (hl : (trip a σ b).length ≤ 1000) :
    w_law_1 E [a0, a1, a2, .lst o (S.map spotD), a4, a5, a6, a7, .lst true dus, .int k, .lst o2 [spotD a, spotD b], .lst true ((trip a σ b).map fun t => D.tup [.int t.1, .int t.2.1, .int t.2.2]), a12, .off, .off, .off, .off] := by
  unfold w_law_1
  have hf : fzL ((trip a σ b).map fun t => D.tup [.int t.1, .int t.2.1, .int t.2.2]) = (trip a σ b).map fun t => D.tup [.int t.1, .int t.2.1, .int t.2.2] := fzL_of fun x hx => by
    obtain ⟨t, _, rfl⟩ := List.mem_map.mp hx
    rfl
  simp (maxSteps := 2000000) only [x_callZ, x_enumS, x_minD, x_maxD, r_powW, r_mulW, x_izipM, x_glst, x_izip, iz_tup, iz_lst, x_lcV, x_par3, x_lz3, x_lstS, x_star, x_izip3, x_sumL, x_tru, x_rg2, x_metP, x_yes, lo_l, so_l, so_t, tr_int, x_clear, ex_plB, pb_causes, pb_clashes, pb_undone, on_book, x_iseq, is_tup, is_lst, x_seq, x_ifS, x_asg, x_par, x_for, x_gname, x_gnil, x_gcons, x_gtup, x_gixP, x_tup, x_lst, x_cons, x_nil, x_dK, x_op2, x_op1, x_opL, x_ret, x_mov, x_var, x_fz, x_c, x_next, x_drop, x_if, x_and, x_or, x_not, x_chain, x_tchain, x_tcmp, x_tval, x_tand, x_tor, x_tnot, x_isi, x_call, x_args0, x_argsV, x_argsL, x_put0, x_putN, x_putS, x_evN, x_evE, x_ev0, x_evC, x_atN, x_atD, x_metN, x_pn, x_ps, x_sl, x_rg1, x_orT, x_lrg2, x_endR, x_endN, x_outT, x_outF, x_out0, x_keyC, x_keyN, y_int, y_bl, y_str, y_non, y_tup, y_lst, y_frl, y_nil, y_cons, ats_nil, ats_cons, onAt_0, onAt_s, on_tape, on_int, on_str, on_bl, on_non, on_tup, on_lst, on_hole, on_frl, true_and, and_true, and_assoc, List.getElem?_cons_zero, List.getElem?_cons_succ, Option.some.injEq, exists_and_left, exists_eq_left', exists_eq_left, exists_eq_right, exists_eq_right', tape_left, tape_spot, tape_cells, set_spot, set_left, r_int, r_mod, r_fdiv, r_lt, r_le, r_gt, r_ge, r_eq, r_ne, r_eqS, r_neS, r_add, r_addL, r_sub, r_mul, r_mulL, r_pow, r_intB, r_abs, r_neg, r_lenL, r_lenT, r_lenF, r_append, r_popAt, r_extend, r_tyL, r_min, fz_fz, fzL_fz, List.all_cons, List.all_nil, Bool.and_true, Bool.true_and, D.tup.injEq, D.int.injEq, D.bl.injEq, D.str.injEq, D.lst.injEq, List.cons.injEq, List.length_cons, List.length_nil, ex_plN, List.set_cons_succ, List.set_cons_zero, decide_eq_true_eq, Nat.reduceAdd, Nat.reduceLT, Nat.reduceLeDiff, Nat.zero_add, Bool.not_true, Bool.not_false, Bool.not_eq_true, Bool.and_false, Bool.false_and, D.hole.injEq, ite_true, ite_false, if_true, if_false, reduceIte, Bool.false_eq_true, Nat.lt_add_one, reduceCtorEq, false_and, and_false, exists_false, exists_const, ne_eq, not_false_eq_true, true_or, or_true, or_false, false_or, hf, List.length_map, tyD_lst]
  refine ⟨sizeOk (by omega), by decide, ?_⟩
  refine lc_over _ _ (fun t => .int (if t.1 = t.2.1 ∨ t.1 = t.2.2 then t.1 else t.2.1)) (fun s => s = [a0, a1, a2, .lst o (S.map spotD), a4, a5, a6, a7, .lst true dus, .int k, .lst o2 [spotD a, spotD b], .lst false ((trip a σ b).map fun t => D.tup [.int t.1, .int t.2.1, .int t.2.2]), a12, .off, .off, .off, .off]) rfl ?_ ?_
  · rintro j ⟨x, y, z⟩ ha s rfl K hK
    have hK := hK [a0, a1, a2, .lst o (S.map spotD), a4, a5, a6, a7, .lst true dus, .int k, .lst o2 [spotD a, spotD b], .lst false ((trip a σ b).map fun t => D.tup [.int t.1, .int t.2.1, .int t.2.2]), a12, .off, .off, .off, .tup [.int x, .int y, .int z]] rfl
    simp (maxSteps := 2000000) only [x_callZ, x_enumS, x_minD, x_maxD, r_powW, r_mulW, x_izipM, x_glst, x_izip, iz_tup, iz_lst, x_lcV, x_par3, x_lz3, x_lstS, x_star, x_izip3, x_sumL, x_tru, x_rg2, x_metP, x_yes, lo_l, so_l, so_t, tr_int, x_clear, ex_plB, pb_causes, pb_clashes, pb_undone, on_book, x_iseq, is_tup, is_lst, x_seq, x_ifS, x_asg, x_par, x_for, x_gname, x_gnil, x_gcons, x_gtup, x_gixP, x_tup, x_lst, x_cons, x_nil, x_dK, x_op2, x_op1, x_opL, x_ret, x_mov, x_var, x_fz, x_c, x_next, x_drop, x_if, x_and, x_or, x_not, x_chain, x_tchain, x_tcmp, x_tval, x_tand, x_tor, x_tnot, x_isi, x_call, x_args0, x_argsV, x_argsL, x_put0, x_putN, x_putS, x_evN, x_evE, x_ev0, x_evC, x_atN, x_atD, x_metN, x_pn, x_ps, x_sl, x_rg1, x_orT, x_lrg2, x_endR, x_endN, x_outT, x_outF, x_out0, x_keyC, x_keyN, y_int, y_bl, y_str, y_non, y_tup, y_lst, y_frl, y_nil, y_cons, ats_nil, ats_cons, onAt_0, onAt_s, on_tape, on_int, on_str, on_bl, on_non, on_tup, on_lst, on_hole, on_frl, true_and, and_true, and_assoc, List.getElem?_cons_zero, List.getElem?_cons_succ, Option.some.injEq, exists_and_left, exists_eq_left', exists_eq_left, exists_eq_right, exists_eq_right', tape_left, tape_spot, tape_cells, set_spot, set_left, r_int, r_mod, r_fdiv, r_lt, r_le, r_gt, r_ge, r_eq, r_ne, r_eqS, r_neS, r_add, r_addL, r_sub, r_mul, r_mulL, r_pow, r_intB, r_abs, r_neg, r_lenL, r_lenT, r_lenF, r_append, r_popAt, r_extend, r_tyL, r_min, fz_fz, fzL_fz, List.all_cons, List.all_nil, Bool.and_true, Bool.true_and, D.tup.injEq, D.int.injEq, D.bl.injEq, D.str.injEq, D.lst.injEq, List.cons.injEq, List.length_cons, List.length_nil, ex_plN, List.set_cons_succ, List.set_cons_zero, decide_eq_true_eq, Nat.reduceAdd, Nat.reduceLT, Nat.reduceLeDiff, Nat.zero_add, Bool.not_true, Bool.not_false, Bool.not_eq_true, Bool.and_false, Bool.false_and, D.hole.injEq, ite_true, ite_false, if_true, if_false, reduceIte, Bool.false_eq_true, Nat.lt_add_one, reduceCtorEq, false_and, and_false, exists_false, exists_const, ne_eq, not_false_eq_true, true_or, or_true, or_false, false_or]
    rw [t3_0]
    simp (maxSteps := 2000000) only [x_callZ, x_enumS, x_minD, x_maxD, r_powW, r_mulW, x_izipM, x_glst, x_izip, iz_tup, iz_lst, x_lcV, x_par3, x_lz3, x_lstS, x_star, x_izip3, x_sumL, x_tru, x_rg2, x_metP, x_yes, lo_l, so_l, so_t, tr_int, x_clear, ex_plB, pb_causes, pb_clashes, pb_undone, on_book, x_iseq, is_tup, is_lst, x_seq, x_ifS, x_asg, x_par, x_for, x_gname, x_gnil, x_gcons, x_gtup, x_gixP, x_tup, x_lst, x_cons, x_nil, x_dK, x_op2, x_op1, x_opL, x_ret, x_mov, x_var, x_fz, x_c, x_next, x_drop, x_if, x_and, x_or, x_not, x_chain, x_tchain, x_tcmp, x_tval, x_tand, x_tor, x_tnot, x_isi, x_call, x_args0, x_argsV, x_argsL, x_put0, x_putN, x_putS, x_evN, x_evE, x_ev0, x_evC, x_atN, x_atD, x_metN, x_pn, x_ps, x_sl, x_rg1, x_orT, x_lrg2, x_endR, x_endN, x_outT, x_outF, x_out0, x_keyC, x_keyN, y_int, y_bl, y_str, y_non, y_tup, y_lst, y_frl, y_nil, y_cons, ats_nil, ats_cons, onAt_0, onAt_s, on_tape, on_int, on_str, on_bl, on_non, on_tup, on_lst, on_hole, on_frl, true_and, and_true, and_assoc, List.getElem?_cons_zero, List.getElem?_cons_succ, Option.some.injEq, exists_and_left, exists_eq_left', exists_eq_left, exists_eq_right, exists_eq_right', tape_left, tape_spot, tape_cells, set_spot, set_left, r_int, r_mod, r_fdiv, r_lt, r_le, r_gt, r_ge, r_eq, r_ne, r_eqS, r_neS, r_add, r_addL, r_sub, r_mul, r_mulL, r_pow, r_intB, r_abs, r_neg, r_lenL, r_lenT, r_lenF, r_append, r_popAt, r_extend, r_tyL, r_min, fz_fz, fzL_fz, List.all_cons, List.all_nil, Bool.and_true, Bool.true_and, D.tup.injEq, D.int.injEq, D.bl.injEq, D.str.injEq, D.lst.injEq, List.cons.injEq, List.length_cons, List.length_nil, ex_plN, List.set_cons_succ, List.set_cons_zero, decide_eq_true_eq, Nat.reduceAdd, Nat.reduceLT, Nat.reduceLeDiff, Nat.zero_add, Bool.not_true, Bool.not_false, Bool.not_eq_true, Bool.and_false, Bool.false_and, D.hole.injEq, ite_true, ite_false, if_true, if_false, reduceIte, Bool.false_eq_true, Nat.lt_add_one, reduceCtorEq, false_and, and_false, exists_false, exists_const, ne_eq, not_false_eq_true, true_or, or_true, or_false, false_or]
    rw [t3_s]
    simp (maxSteps := 2000000) only [x_callZ, x_enumS, x_minD, x_maxD, r_powW, r_mulW, x_izipM, x_glst, x_izip, iz_tup, iz_lst, x_lcV, x_par3, x_lz3, x_lstS, x_star, x_izip3, x_sumL, x_tru, x_rg2, x_metP, x_yes, lo_l, so_l, so_t, tr_int, x_clear, ex_plB, pb_causes, pb_clashes, pb_undone, on_book, x_iseq, is_tup, is_lst, x_seq, x_ifS, x_asg, x_par, x_for, x_gname, x_gnil, x_gcons, x_gtup, x_gixP, x_tup, x_lst, x_cons, x_nil, x_dK, x_op2, x_op1, x_opL, x_ret, x_mov, x_var, x_fz, x_c, x_next, x_drop, x_if, x_and, x_or, x_not, x_chain, x_tchain, x_tcmp, x_tval, x_tand, x_tor, x_tnot, x_isi, x_call, x_args0, x_argsV, x_argsL, x_put0, x_putN, x_putS, x_evN, x_evE, x_ev0, x_evC, x_atN, x_atD, x_metN, x_pn, x_ps, x_sl, x_rg1, x_orT, x_lrg2, x_endR, x_endN, x_outT, x_outF, x_out0, x_keyC, x_keyN, y_int, y_bl, y_str, y_non, y_tup, y_lst, y_frl, y_nil, y_cons, ats_nil, ats_cons, onAt_0, onAt_s, on_tape, on_int, on_str, on_bl, on_non, on_tup, on_lst, on_hole, on_frl, true_and, and_true, and_assoc, List.getElem?_cons_zero, List.getElem?_cons_succ, Option.some.injEq, exists_and_left, exists_eq_left', exists_eq_left, exists_eq_right, exists_eq_right', tape_left, tape_spot, tape_cells, set_spot, set_left, r_int, r_mod, r_fdiv, r_lt, r_le, r_gt, r_ge, r_eq, r_ne, r_eqS, r_neS, r_add, r_addL, r_sub, r_mul, r_mulL, r_pow, r_intB, r_abs, r_neg, r_lenL, r_lenT, r_lenF, r_append, r_popAt, r_extend, r_tyL, r_min, fz_fz, fzL_fz, List.all_cons, List.all_nil, Bool.and_true, Bool.true_and, D.tup.injEq, D.int.injEq, D.bl.injEq, D.str.injEq, D.lst.injEq, List.cons.injEq, List.length_cons, List.length_nil, ex_plN, List.set_cons_succ, List.set_cons_zero, decide_eq_true_eq, Nat.reduceAdd, Nat.reduceLT, Nat.reduceLeDiff, Nat.zero_add, Bool.not_true, Bool.not_false, Bool.not_eq_true, Bool.and_false, Bool.false_and, D.hole.injEq, ite_true, ite_false, if_true, if_false, reduceIte, Bool.false_eq_true, Nat.lt_add_one, reduceCtorEq, false_and, and_false, exists_false, exists_const, ne_eq, not_false_eq_true, true_or, or_true, or_false, false_or]
    rw [r_inT2]
    simp (maxSteps := 2000000) only [x_callZ, x_enumS, x_minD, x_maxD, r_powW, r_mulW, x_izipM, x_glst, x_izip, iz_tup, iz_lst, x_lcV, x_par3, x_lz3, x_lstS, x_star, x_izip3, x_sumL, x_tru, x_rg2, x_metP, x_yes, lo_l, so_l, so_t, tr_int, x_clear, ex_plB, pb_causes, pb_clashes, pb_undone, on_book, x_iseq, is_tup, is_lst, x_seq, x_ifS, x_asg, x_par, x_for, x_gname, x_gnil, x_gcons, x_gtup, x_gixP, x_tup, x_lst, x_cons, x_nil, x_dK, x_op2, x_op1, x_opL, x_ret, x_mov, x_var, x_fz, x_c, x_next, x_drop, x_if, x_and, x_or, x_not, x_chain, x_tchain, x_tcmp, x_tval, x_tand, x_tor, x_tnot, x_isi, x_call, x_args0, x_argsV, x_argsL, x_put0, x_putN, x_putS, x_evN, x_evE, x_ev0, x_evC, x_atN, x_atD, x_metN, x_pn, x_ps, x_sl, x_rg1, x_orT, x_lrg2, x_endR, x_endN, x_outT, x_outF, x_out0, x_keyC, x_keyN, y_int, y_bl, y_str, y_non, y_tup, y_lst, y_frl, y_nil, y_cons, ats_nil, ats_cons, onAt_0, onAt_s, on_tape, on_int, on_str, on_bl, on_non, on_tup, on_lst, on_hole, on_frl, true_and, and_true, and_assoc, List.getElem?_cons_zero, List.getElem?_cons_succ, Option.some.injEq, exists_and_left, exists_eq_left', exists_eq_left, exists_eq_right, exists_eq_right', tape_left, tape_spot, tape_cells, set_spot, set_left, r_int, r_mod, r_fdiv, r_lt, r_le, r_gt, r_ge, r_eq, r_ne, r_eqS, r_neS, r_add, r_addL, r_sub, r_mul, r_mulL, r_pow, r_intB, r_abs, r_neg, r_lenL, r_lenT, r_lenF, r_append, r_popAt, r_extend, r_tyL, r_min, fz_fz, fzL_fz, List.all_cons, List.all_nil, Bool.and_true, Bool.true_and, D.tup.injEq, D.int.injEq, D.bl.injEq, D.str.injEq, D.lst.injEq, List.cons.injEq, List.length_cons, List.length_nil, ex_plN, List.set_cons_succ, List.set_cons_zero, decide_eq_true_eq, Nat.reduceAdd, Nat.reduceLT, Nat.reduceLeDiff, Nat.zero_add, Bool.not_true, Bool.not_false, Bool.not_eq_true, Bool.and_false, Bool.false_and, D.hole.injEq, ite_true, ite_false, if_true, if_false, reduceIte, Bool.false_eq_true, Nat.lt_add_one, reduceCtorEq, false_and, and_false, exists_false, exists_const, ne_eq, not_false_eq_true, true_or, or_true, or_false, false_or]
    split <;> rename_i hh
    · simp only [hh, if_true] at hK
      rw [t3_0]
      exact hK
    · simp only [hh, if_false] at hK
      rw [t3_1]
      exact hK
  · rintro s rfl
    have e : ((trip a σ b).map fun t => D.int (if t.1 = t.2.1 ∨ t.1 = t.2.2 then t.1 else t.2.1)) = (meetL a σ b).map .int := by
      unfold meetL
      rw [z3_trip, List.map_map]
      rfl
    rw [e]
    rw [r_tuple (fzL_ints _)]
    have e2 : D.tup ((meetL a σ b).map .int) = spotD (meetL a σ b) := rfl
    have os : ∀ σ, on (spotD σ) = true := fun _ => rfl
    rw [e2]
    simp only [restore, unset, x_callZ, x_enumS, x_minD, x_maxD, r_powW, r_mulW, x_izipM, x_glst, x_izip, iz_tup, iz_lst, x_lcV, x_par3, x_lz3, x_lstS, x_star, x_izip3, x_sumL, x_tru, x_rg2, x_metP, x_yes, lo_l, so_l, so_t, tr_int, x_clear, ex_plB, pb_causes, pb_clashes, pb_undone, on_book, x_iseq, is_tup, is_lst, x_seq, x_ifS, x_asg, x_par, x_for, x_gname, x_gnil, x_gcons, x_gtup, x_gixP, x_tup, x_lst, x_cons, x_nil, x_dK, x_op2, x_op1, x_opL, x_ret, x_mov, x_var, x_fz, x_c, x_next, x_drop, x_if, x_and, x_or, x_not, x_chain, x_tchain, x_tcmp, x_tval, x_tand, x_tor, x_tnot, x_isi, x_call, x_args0, x_argsV, x_argsL, x_put0, x_putN, x_putS, x_evN, x_evE, x_ev0, x_evC, x_atN, x_atD, x_metN, x_pn, x_ps, x_sl, x_rg1, x_orT, x_lrg2, x_endR, x_endN, x_outT, x_outF, x_out0, x_keyC, x_keyN, y_int, y_bl, y_str, y_non, y_tup, y_lst, y_frl, y_nil, y_cons, ats_nil, ats_cons, onAt_0, onAt_s, on_tape, on_int, on_str, on_bl, on_non, on_tup, on_lst, on_hole, on_frl, true_and, and_true, and_assoc, List.getElem?_cons_zero, List.getElem?_cons_succ, Option.some.injEq, exists_and_left, exists_eq_left', exists_eq_left, exists_eq_right, exists_eq_right', tape_left, tape_spot, tape_cells, set_spot, set_left, r_int, r_mod, r_fdiv, r_lt, r_le, r_gt, r_ge, r_eq, r_ne, r_eqS, r_neS, r_add, r_addL, r_sub, r_mul, r_mulL, r_pow, r_intB, r_abs, r_neg, r_lenL, r_lenT, r_lenF, r_append, r_popAt, r_extend, r_tyL, r_min, fz_fz, fzL_fz, List.all_cons, List.all_nil, Bool.and_true, Bool.true_and, D.tup.injEq, D.int.injEq, D.bl.injEq, D.str.injEq, D.lst.injEq, List.cons.injEq, List.length_cons, List.length_nil, ex_plN, List.set_cons_succ, List.set_cons_zero, decide_eq_true_eq, Nat.reduceAdd, Nat.reduceLT, Nat.reduceLeDiff, Nat.zero_add, Bool.not_true, Bool.not_false, Bool.not_eq_true, Bool.and_false, Bool.false_and, D.hole.injEq, ite_true, ite_false, if_true, if_false, reduceIte, Bool.false_eq_true, Nat.lt_add_one, reduceCtorEq, false_and, and_false, exists_false, exists_const, ne_eq, not_false_eq_true, true_or, or_true, or_false, false_or, List.getD_eq_getElem?_getD, Option.getD_some, fz_spot, os]
    exact ⟨Nat.lt_of_le_of_lt hd (by rw [sizeLine_eq]; decide), q⟩
theorem law2 (hk : S[k]? = some σ) (h1 : a.length = σ.length) (h2 : b.length = σ.length) (hs : σ.length ≤ 60) (hd : dus.length ≤ 60) (q : ∀ a11, E.nx [a0, a1, a2, .lst o (S.map spotD), a4, a5, a6, a7, .lst true (dus ++ [spotD (meetL a σ b)]), .int k, .lst o2 [spotD a, spotD b], a11, a12, .off, .off, .off, .off]) :
    w_law_2 E [a0, a1, a2, .lst o (S.map spotD), a4, a5, a6, a7, .lst true dus, .int k, .lst o2 [spotD a, spotD b], a11, a12, .off, .off, .off, .off] := by
  unfold w_law_2
  have hk' : L2.atI (S.map spotD) (k : Int) = some (spotD σ) := by
    have hlt := (List.getElem?_eq_some_iff.mp hk).1
    rw [atI_get (by omega) (by rw [List.length_map]; omega), List.getElem_map]
    congr 1
    have := (List.getElem?_eq_some_iff.mp hk).2
    simpa using congrArg spotD this
  have os : ∀ σ, on (spotD σ) = true := fun _ => rfl
  simp (maxSteps := 2000000) only [x_callZ, x_enumS, x_minD, x_maxD, r_powW, r_mulW, x_izipM, x_glst, x_izip, iz_tup, iz_lst, x_lcV, x_par3, x_lz3, x_lstS, x_star, x_izip3, x_sumL, x_tru, x_rg2, x_metP, x_yes, lo_l, so_l, so_t, tr_int, x_clear, ex_plB, pb_causes, pb_clashes, pb_undone, on_book, x_iseq, is_tup, is_lst, x_seq, x_ifS, x_asg, x_par, x_for, x_gname, x_gnil, x_gcons, x_gtup, x_gixP, x_tup, x_lst, x_cons, x_nil, x_dK, x_op2, x_op1, x_opL, x_ret, x_mov, x_var, x_fz, x_c, x_next, x_drop, x_if, x_and, x_or, x_not, x_chain, x_tchain, x_tcmp, x_tval, x_tand, x_tor, x_tnot, x_isi, x_call, x_args0, x_argsV, x_argsL, x_put0, x_putN, x_putS, x_evN, x_evE, x_ev0, x_evC, x_atN, x_atD, x_metN, x_pn, x_ps, x_sl, x_rg1, x_orT, x_lrg2, x_endR, x_endN, x_outT, x_outF, x_out0, x_keyC, x_keyN, y_int, y_bl, y_str, y_non, y_tup, y_lst, y_frl, y_nil, y_cons, ats_nil, ats_cons, onAt_0, onAt_s, on_tape, on_int, on_str, on_bl, on_non, on_tup, on_lst, on_hole, on_frl, true_and, and_true, and_assoc, List.getElem?_cons_zero, List.getElem?_cons_succ, Option.some.injEq, exists_and_left, exists_eq_left', exists_eq_left, exists_eq_right, exists_eq_right', tape_left, tape_spot, tape_cells, set_spot, set_left, r_int, r_mod, r_fdiv, r_lt, r_le, r_gt, r_ge, r_eq, r_ne, r_eqS, r_neS, r_add, r_addL, r_sub, r_mul, r_mulL, r_pow, r_intB, r_abs, r_neg, r_lenL, r_lenT, r_lenF, r_append, r_popAt, r_extend, r_tyL, r_min, fz_fz, fzL_fz, List.all_cons, List.all_nil, Bool.and_true, Bool.true_and, D.tup.injEq, D.int.injEq, D.bl.injEq, D.str.injEq, D.lst.injEq, List.cons.injEq, List.length_cons, List.length_nil, ex_plN, List.set_cons_succ, List.set_cons_zero, decide_eq_true_eq, Nat.reduceAdd, Nat.reduceLT, Nat.reduceLeDiff, Nat.zero_add, Bool.not_true, Bool.not_false, Bool.not_eq_true, Bool.and_false, Bool.false_and, D.hole.injEq, ite_true, ite_false, if_true, if_false, reduceIte, Bool.false_eq_true, Nat.lt_add_one, reduceCtorEq, false_and, and_false, exists_false, exists_const, ne_eq, not_false_eq_true, true_or, or_true, or_false, false_or]
  rw [ix_at hk' fz_spot]
  simp (maxSteps := 2000000) only [x_callZ, x_enumS, x_minD, x_maxD, r_powW, r_mulW, x_izipM, x_glst, x_izip, iz_tup, iz_lst, x_lcV, x_par3, x_lz3, x_lstS, x_star, x_izip3, x_sumL, x_tru, x_rg2, x_metP, x_yes, lo_l, so_l, so_t, tr_int, x_clear, ex_plB, pb_causes, pb_clashes, pb_undone, on_book, x_iseq, is_tup, is_lst, x_seq, x_ifS, x_asg, x_par, x_for, x_gname, x_gnil, x_gcons, x_gtup, x_gixP, x_tup, x_lst, x_cons, x_nil, x_dK, x_op2, x_op1, x_opL, x_ret, x_mov, x_var, x_fz, x_c, x_next, x_drop, x_if, x_and, x_or, x_not, x_chain, x_tchain, x_tcmp, x_tval, x_tand, x_tor, x_tnot, x_isi, x_call, x_args0, x_argsV, x_argsL, x_put0, x_putN, x_putS, x_evN, x_evE, x_ev0, x_evC, x_atN, x_atD, x_metN, x_pn, x_ps, x_sl, x_rg1, x_orT, x_lrg2, x_endR, x_endN, x_outT, x_outF, x_out0, x_keyC, x_keyN, y_int, y_bl, y_str, y_non, y_tup, y_lst, y_frl, y_nil, y_cons, ats_nil, ats_cons, onAt_0, onAt_s, on_tape, on_int, on_str, on_bl, on_non, on_tup, on_lst, on_hole, on_frl, true_and, and_true, and_assoc, List.getElem?_cons_zero, List.getElem?_cons_succ, Option.some.injEq, exists_and_left, exists_eq_left', exists_eq_left, exists_eq_right, exists_eq_right', tape_left, tape_spot, tape_cells, set_spot, set_left, r_int, r_mod, r_fdiv, r_lt, r_le, r_gt, r_ge, r_eq, r_ne, r_eqS, r_neS, r_add, r_addL, r_sub, r_mul, r_mulL, r_pow, r_intB, r_abs, r_neg, r_lenL, r_lenT, r_lenF, r_append, r_popAt, r_extend, r_tyL, r_min, fz_fz, fzL_fz, List.all_cons, List.all_nil, Bool.and_true, Bool.true_and, D.tup.injEq, D.int.injEq, D.bl.injEq, D.str.injEq, D.lst.injEq, List.cons.injEq, List.length_cons, List.length_nil, ex_plN, List.set_cons_succ, List.set_cons_zero, decide_eq_true_eq, Nat.reduceAdd, Nat.reduceLT, Nat.reduceLeDiff, Nat.zero_add, Bool.not_true, Bool.not_false, Bool.not_eq_true, Bool.and_false, Bool.false_and, D.hole.injEq, ite_true, ite_false, if_true, if_false, reduceIte, Bool.false_eq_true, Nat.lt_add_one, reduceCtorEq, false_and, and_false, exists_false, exists_const, ne_eq, not_false_eq_true, true_or, or_true, or_false, false_or, os]
  have ol : ∀ Q : D → Prop, o_len [spotD σ] Q ↔ Q (.int σ.length) := fun Q => by
    show (∃ n, lenD (spotD σ) = some n ∧ Q (.int n)) ↔ _
    have e : lenD (spotD σ) = some σ.length := by show some _ = _; rw [List.length_map]
    rw [e]
    exact ⟨fun ⟨n, e, q⟩ => by cases e; exact q, fun q => ⟨_, rfl, q⟩⟩
  rw [ol]
  simp (maxSteps := 2000000) only [x_callZ, x_enumS, x_minD, x_maxD, r_powW, r_mulW, x_izipM, x_glst, x_izip, iz_tup, iz_lst, x_lcV, x_par3, x_lz3, x_lstS, x_star, x_izip3, x_sumL, x_tru, x_rg2, x_metP, x_yes, lo_l, so_l, so_t, tr_int, x_clear, ex_plB, pb_causes, pb_clashes, pb_undone, on_book, x_iseq, is_tup, is_lst, x_seq, x_ifS, x_asg, x_par, x_for, x_gname, x_gnil, x_gcons, x_gtup, x_gixP, x_tup, x_lst, x_cons, x_nil, x_dK, x_op2, x_op1, x_opL, x_ret, x_mov, x_var, x_fz, x_c, x_next, x_drop, x_if, x_and, x_or, x_not, x_chain, x_tchain, x_tcmp, x_tval, x_tand, x_tor, x_tnot, x_isi, x_call, x_args0, x_argsV, x_argsL, x_put0, x_putN, x_putS, x_evN, x_evE, x_ev0, x_evC, x_atN, x_atD, x_metN, x_pn, x_ps, x_sl, x_rg1, x_orT, x_lrg2, x_endR, x_endN, x_outT, x_outF, x_out0, x_keyC, x_keyN, y_int, y_bl, y_str, y_non, y_tup, y_lst, y_frl, y_nil, y_cons, ats_nil, ats_cons, onAt_0, onAt_s, on_tape, on_int, on_str, on_bl, on_non, on_tup, on_lst, on_hole, on_frl, true_and, and_true, and_assoc, List.getElem?_cons_zero, List.getElem?_cons_succ, Option.some.injEq, exists_and_left, exists_eq_left', exists_eq_left, exists_eq_right, exists_eq_right', tape_left, tape_spot, tape_cells, set_spot, set_left, r_int, r_mod, r_fdiv, r_lt, r_le, r_gt, r_ge, r_eq, r_ne, r_eqS, r_neS, r_add, r_addL, r_sub, r_mul, r_mulL, r_pow, r_intB, r_abs, r_neg, r_lenL, r_lenT, r_lenF, r_append, r_popAt, r_extend, r_tyL, r_min, fz_fz, fzL_fz, List.all_cons, List.all_nil, Bool.and_true, Bool.true_and, D.tup.injEq, D.int.injEq, D.bl.injEq, D.str.injEq, D.lst.injEq, List.cons.injEq, List.length_cons, List.length_nil, ex_plN, List.set_cons_succ, List.set_cons_zero, decide_eq_true_eq, Nat.reduceAdd, Nat.reduceLT, Nat.reduceLeDiff, Nat.zero_add, Bool.not_true, Bool.not_false, Bool.not_eq_true, Bool.and_false, Bool.false_and, D.hole.injEq, ite_true, ite_false, if_true, if_false, reduceIte, Bool.false_eq_true, Nat.lt_add_one, reduceCtorEq, false_and, and_false, exists_false, exists_const, ne_eq, not_false_eq_true, true_or, or_true, or_false, false_or]
  refine ⟨by omega, by omega, sizeOk (by rw [rangeD_len]; omega), by decide, ?_⟩
  rw [range_map]
  have hz : (List.range (σ.length : Int).toNat).map (fun (j : Nat) => D.tup [.int (a.getD j 0), .int (σ.getD j 0), .int (b.getD j 0)]) = (trip a σ b).map fun t => D.tup [.int t.1, .int t.2.1, .int t.2.2] := by
    apply List.ext_getElem?
    intro j
    rw [List.getElem?_map, List.getElem?_map]
    by_cases hj : j < σ.length
    · rw [List.getElem?_range (by omega), trip_get (List.getElem?_eq_getElem (by omega)) (List.getElem?_eq_getElem hj) (List.getElem?_eq_getElem (by omega))]
      simp only [Option.map_some, List.getD_eq_getElem?_getD, List.getElem?_eq_getElem hj, List.getElem?_eq_getElem (show j < a.length by omega), List.getElem?_eq_getElem (show j < b.length by omega), Option.getD_some]
    · rw [List.getElem?_eq_none (by rw [List.length_range]; omega), List.getElem?_eq_none (by rw [trip_len]; omega)]
      rfl
  refine lc_over _ _ (fun (j : Nat) => D.tup [.int (a.getD j 0), .int (σ.getD j 0), .int (b.getD j 0)]) (fun s => s = [a0, a1, a2, .lst o (S.map spotD), a4, a5, a6, a7, .lst true dus, .int k, .lst o2 [spotD a, spotD b], a11, a12, .off, .off, .off, .off]) rfl ?_ ?_
  · rintro j x hx s rfl K hK
    have hj : x = j ∧ j < σ.length := by
      have := List.getElem?_eq_some_iff.mp hx
      obtain ⟨h3, h4⟩ := this
      rw [List.length_range] at h3
      rw [List.getElem_range] at h4
      exact ⟨h4.symm, by omega⟩
    obtain ⟨rfl, hj⟩ := hj
    have hK := hK [a0, a1, a2, .lst o (S.map spotD), a4, a5, a6, a7, .lst true dus, .int k, .lst o2 [spotD a, spotD b], a11, a12, .off, .int (0 + (x : Int)), .off, .off] rfl
    have sp : ∀ (τ : List Int) (Q : D → Prop), x < τ.length → (o_ix (spotD τ) (.int (0 + (x : Int))) Q ↔ Q (.int (τ.getD x 0))) := fun τ Q hτ => by
      have e : L2.atI (τ.map D.int) (0 + (x : Int)) = some (.int (τ.getD x 0)) := by
        rw [atI_get (by omega) (by rw [List.length_map]; omega), List.getElem_map, List.getD_eq_getElem?_getD]
        congr 2
        rw [List.getElem?_eq_getElem hτ, Option.getD_some]
        congr 1
        omega
      constructor
      · rintro ⟨i, d, e1, e2, _, q⟩
        cases e1
        rw [e] at e2
        cases e2
        exact q
      · intro q; exact ⟨_, _, rfl, e, rfl, q⟩
    have p0 : ∀ Q : D → Prop, o_ix (.lst o2 [spotD a, spotD b]) (.int 0) Q ↔ Q (spotD a) := fun Q => by
      rw [ix_at (show L2.atI [spotD a, spotD b] 0 = some (spotD a) from rfl) fz_spot]
    have p1 : ∀ Q : D → Prop, o_ix (.lst o2 [spotD a, spotD b]) (.int 1) Q ↔ Q (spotD b) := fun Q => by
      rw [ix_at (show L2.atI [spotD a, spotD b] 1 = some (spotD b) from rfl) fz_spot]
    have p2 : ∀ Q : D → Prop, o_ix (.lst o (S.map spotD)) (.int (k : Int)) Q ↔ Q (spotD σ) := fun Q => by
      rw [ix_at hk' fz_spot]
    simp (maxSteps := 2000000) only [x_callZ, x_enumS, x_minD, x_maxD, r_powW, r_mulW, x_izipM, x_glst, x_izip, iz_tup, iz_lst, x_lcV, x_par3, x_lz3, x_lstS, x_star, x_izip3, x_sumL, x_tru, x_rg2, x_metP, x_yes, lo_l, so_l, so_t, tr_int, x_clear, ex_plB, pb_causes, pb_clashes, pb_undone, on_book, x_iseq, is_tup, is_lst, x_seq, x_ifS, x_asg, x_par, x_for, x_gname, x_gnil, x_gcons, x_gtup, x_gixP, x_tup, x_lst, x_cons, x_nil, x_dK, x_op2, x_op1, x_opL, x_ret, x_mov, x_var, x_fz, x_c, x_next, x_drop, x_if, x_and, x_or, x_not, x_chain, x_tchain, x_tcmp, x_tval, x_tand, x_tor, x_tnot, x_isi, x_call, x_args0, x_argsV, x_argsL, x_put0, x_putN, x_putS, x_evN, x_evE, x_ev0, x_evC, x_atN, x_atD, x_metN, x_pn, x_ps, x_sl, x_rg1, x_orT, x_lrg2, x_endR, x_endN, x_outT, x_outF, x_out0, x_keyC, x_keyN, y_int, y_bl, y_str, y_non, y_tup, y_lst, y_frl, y_nil, y_cons, ats_nil, ats_cons, onAt_0, onAt_s, on_tape, on_int, on_str, on_bl, on_non, on_tup, on_lst, on_hole, on_frl, true_and, and_true, and_assoc, List.getElem?_cons_zero, List.getElem?_cons_succ, Option.some.injEq, exists_and_left, exists_eq_left', exists_eq_left, exists_eq_right, exists_eq_right', tape_left, tape_spot, tape_cells, set_spot, set_left, r_int, r_mod, r_fdiv, r_lt, r_le, r_gt, r_ge, r_eq, r_ne, r_eqS, r_neS, r_add, r_addL, r_sub, r_mul, r_mulL, r_pow, r_intB, r_abs, r_neg, r_lenL, r_lenT, r_lenF, r_append, r_popAt, r_extend, r_tyL, r_min, fz_fz, fzL_fz, List.all_cons, List.all_nil, Bool.and_true, Bool.true_and, D.tup.injEq, D.int.injEq, D.bl.injEq, D.str.injEq, D.lst.injEq, List.cons.injEq, List.length_cons, List.length_nil, ex_plN, List.set_cons_succ, List.set_cons_zero, decide_eq_true_eq, Nat.reduceAdd, Nat.reduceLT, Nat.reduceLeDiff, Nat.zero_add, Bool.not_true, Bool.not_false, Bool.not_eq_true, Bool.and_false, Bool.false_and, D.hole.injEq, ite_true, ite_false, if_true, if_false, reduceIte, Bool.false_eq_true, Nat.lt_add_one, reduceCtorEq, false_and, and_false, exists_false, exists_const, ne_eq, not_false_eq_true, true_or, or_true, or_false, false_or, p0, p1, p2, os, sp a _ (by omega), sp σ _ hj, sp b _ (by omega)]
    exact hK
  · rintro s rfl
    rw [hz]
    simp only [restore, unset, x_callZ, x_enumS, x_minD, x_maxD, r_powW, r_mulW, x_izipM, x_glst, x_izip, iz_tup, iz_lst, x_lcV, x_par3, x_lz3, x_lstS, x_star, x_izip3, x_sumL, x_tru, x_rg2, x_metP, x_yes, lo_l, so_l, so_t, tr_int, x_clear, ex_plB, pb_causes, pb_clashes, pb_undone, on_book, x_iseq, is_tup, is_lst, x_seq, x_ifS, x_asg, x_par, x_for, x_gname, x_gnil, x_gcons, x_gtup, x_gixP, x_tup, x_lst, x_cons, x_nil, x_dK, x_op2, x_op1, x_opL, x_ret, x_mov, x_var, x_fz, x_c, x_next, x_drop, x_if, x_and, x_or, x_not, x_chain, x_tchain, x_tcmp, x_tval, x_tand, x_tor, x_tnot, x_isi, x_call, x_args0, x_argsV, x_argsL, x_put0, x_putN, x_putS, x_evN, x_evE, x_ev0, x_evC, x_atN, x_atD, x_metN, x_pn, x_ps, x_sl, x_rg1, x_orT, x_lrg2, x_endR, x_endN, x_outT, x_outF, x_out0, x_keyC, x_keyN, y_int, y_bl, y_str, y_non, y_tup, y_lst, y_frl, y_nil, y_cons, ats_nil, ats_cons, onAt_0, onAt_s, on_tape, on_int, on_str, on_bl, on_non, on_tup, on_lst, on_hole, on_frl, true_and, and_true, and_assoc, List.getElem?_cons_zero, List.getElem?_cons_succ, Option.some.injEq, exists_and_left, exists_eq_left', exists_eq_left, exists_eq_right, exists_eq_right', tape_left, tape_spot, tape_cells, set_spot, set_left, r_int, r_mod, r_fdiv, r_lt, r_le, r_gt, r_ge, r_eq, r_ne, r_eqS, r_neS, r_add, r_addL, r_sub, r_mul, r_mulL, r_pow, r_intB, r_abs, r_neg, r_lenL, r_lenT, r_lenF, r_append, r_popAt, r_extend, r_tyL, r_min, fz_fz, fzL_fz, List.all_cons, List.all_nil, Bool.and_true, Bool.true_and, D.tup.injEq, D.int.injEq, D.bl.injEq, D.str.injEq, D.lst.injEq, List.cons.injEq, List.length_cons, List.length_nil, ex_plN, List.set_cons_succ, List.set_cons_zero, decide_eq_true_eq, Nat.reduceAdd, Nat.reduceLT, Nat.reduceLeDiff, Nat.zero_add, Bool.not_true, Bool.not_false, Bool.not_eq_true, Bool.and_false, Bool.false_and, D.hole.injEq, ite_true, ite_false, if_true, if_false, reduceIte, Bool.false_eq_true, Nat.lt_add_one, reduceCtorEq, false_and, and_false, exists_false, exists_const, ne_eq, not_false_eq_true, true_or, or_true, or_false, false_or, List.getD_eq_getElem?_getD, Option.getD_some]
    exact law1 hd (q _) (by rw [trip_len]; omega)
end
end Q

namespace Q
open PySem PySem.Spec PyProof.Rows L2 M Z3
def firstL (S : List (List Int)) (r : Bool) : List Int := (if r then S.getLast? else S.head?).getD []
def lastL (S : List (List Int)) (r : Bool) : List Int := (if r then S.head? else S.getLast?).getD []
theorem beat_at {S : List (List Int)} {r : Bool} {k : Nat} {x a c : List Int} (hS : S[k]? = some x) (hA : (firstL S r :: S.dropLast)[k]? = some a) (hC : (S.tail ++ [lastL S r])[k]? = some c) : (beatL S r)[k]? = some (meetL a x c) := by
  unfold beatL
  rw [z3_trip, List.getElem?_map]
  show Option.map _ ((trip (firstL S r :: S.dropLast) S (S.tail ++ [lastL S r]))[k]?) = _
  rw [trip_get hA hS hC]
  rfl
theorem at_A {S : List (List Int)} {r : Bool} {k : Nat} (hk : k < S.length) : (firstL S r :: S.dropLast)[k]? = some (if k = 0 then firstL S r else S.getD (k - 1) []) := by
  cases k with
  | zero => rfl
  | succ k =>
    rw [List.getElem?_cons_succ, List.getElem?_dropLast, if_pos (by omega), if_neg (by omega), List.getD_eq_getElem?_getD, Nat.add_sub_cancel, List.getElem?_eq_getElem (by omega), Option.getD_some]
theorem at_C {S : List (List Int)} {r : Bool} {k : Nat} (hk : k < S.length) : (S.tail ++ [lastL S r])[k]? = some (if k + 1 = S.length then lastL S r else S.getD (k + 1) []) := by
  by_cases h : k + 1 = S.length
  · rw [if_pos h, List.getElem?_append_right (by rw [List.length_tail]; omega), List.length_tail, show k - (S.length - 1) = 0 by omega]
    rfl
  · rw [if_neg h, List.getElem?_append_left (by rw [List.length_tail]; omega), List.getElem?_tail, List.getD_eq_getElem?_getD, List.getElem?_eq_getElem (by omega), Option.getD_some]
theorem meet_l : ∀ {x y : List Int}, x.length = y.length → meetL x x y = x
  | [], [], _ => rfl
  | a :: x, b :: y, h => by
    have ih := meet_l (x := x) (y := y) (by simpa using h)
    unfold meetL at ih ⊢
    simp only [z3, ih, true_or, if_true]
  | [], _ :: _, h => by simp at h
  | _ :: _, [], h => by simp at h
theorem meet_r : ∀ {x y : List Int}, x.length = y.length → meetL y x x = x
  | [], [], _ => rfl
  | a :: x, b :: y, h => by
    have ih := meet_r (x := x) (y := y) (by simpa using h)
    unfold meetL at ih ⊢
    simp only [z3, ih, or_self]
    split
    · rename_i h; rw [h]
    · rfl
  | [], _ :: _, h => by simp at h
  | _ :: _, [], h => by simp at h
/-- the two beside, as the law names them -/
def nearA (S : List (List Int)) (r : Bool) (k : Nat) : List Int := if r = true ∨ (0 < k ∧ k + 1 < S.length) then (if k = 0 then S.getD (S.length - 1) [] else S.getD (k - 1) []) else S.getD k []
def nearB (S : List (List Int)) (r : Bool) (k : Nat) : List Int := if r = true ∨ (0 < k ∧ k + 1 < S.length) then (if k + 1 = S.length then S.getD 0 [] else S.getD (k + 1) []) else S.getD k []
theorem beat_near {S : List (List Int)} {r : Bool} {k n : Nat} (hk : k < S.length) (hn : ∀ σ ∈ S, σ.length = n) : (beatL S r)[k]? = some (meetL (nearA S r k) (S.getD k []) (nearB S r k)) := by
  have hS : S[k]? = some (S.getD k []) := by rw [List.getD_eq_getElem?_getD, List.getElem?_eq_getElem hk, Option.getD_some]
  have len : ∀ j, j < S.length → (S.getD j []).length = n := fun j hj => by
    rw [List.getD_eq_getElem?_getD, List.getElem?_eq_getElem hj, Option.getD_some]
    exact hn _ (List.getElem_mem _)
  have hh : S.head?.getD [] = S.getD 0 [] := by rw [List.head?_eq_getElem?, List.getD_eq_getElem?_getD]
  have hg : S.getLast?.getD [] = S.getD (S.length - 1) [] := by rw [List.getLast?_eq_getElem?, List.getD_eq_getElem?_getD]
  rw [beat_at hS (at_A hk) (at_C hk)]
  congr 1
  unfold nearA nearB firstL lastL
  cases r
  · simp only [Bool.false_eq_true, false_or, if_false, hh, hg]
    by_cases h0 : k = 0
    · subst h0
      have e1 : ∀ y, y.length = n → meetL (S.getD 0 []) (S.getD 0 []) y = S.getD 0 [] := fun y hy => meet_l ((len 0 hk).trans hy.symm)
      simp only [Nat.lt_irrefl, false_and, if_false, eq_self, if_true]
      rw [e1 _ (len 0 hk), e1]
      split
      · exact len _ (by omega)
      · exact len _ (by omega)
    · have c0 : 0 < k := by omega
      simp only [h0, c0, if_false, true_and]
      by_cases h1 : k + 1 = S.length
      · simp only [h1, if_true, Nat.lt_irrefl, if_false]
        rw [show S.length - 1 = k by omega]
        rw [meet_r ((len k hk).trans (len _ (by omega)).symm), meet_r rfl]
      · have c1 : k + 1 < S.length := by omega
        simp only [h1, c1, if_true, if_false]
  · simp only [true_or, if_true, hh, hg]
theorem near_len {S : List (List Int)} {r : Bool} {k n : Nat} (hk : k < S.length) (hn : ∀ σ ∈ S, σ.length = n) : (nearA S r k).length = n ∧ (nearB S r k).length = n := by
  have len : ∀ j, j < S.length → (S.getD j []).length = n := fun j hj => by
    rw [List.getD_eq_getElem?_getD, List.getElem?_eq_getElem hj, Option.getD_some]
    exact hn _ (List.getElem_mem _)
  unfold nearA nearB
  constructor <;> (repeat' split) <;> exact len _ (by omega)
section
variable {E : DEnds} {a0 a1 a2 a4 a7 : D} {S : List (List Int)} {r o : Bool} {n : Nat}
theorem law8 (h0 : S ≠ []) (hS : S.length ≤ 60) (hn : ∀ σ ∈ S, σ.length = n) (hn60 : n ≤ 60) {a9 a10 a11 a12 : D} (q : ∀ c9 c10 c11, w_law_7 E [a0, a1, a2, .lst o (S.map spotD), a4, .bl r, .int S.length, a7, .lst true ((beatL S r).map spotD), c9, c10, c11, a12, .off, .off, .off, .off]) :
    w_law_8 E [a0, a1, a2, .lst o (S.map spotD), a4, .bl r, .int S.length, a7, .lst true [], a9, a10, a11, a12, .off, .off, .off, .off] := by
  have hpos : 0 < S.length := List.length_pos_iff.mpr h0
  unfold w_law_8
  simp (maxSteps := 2000000) only [x_callZ, x_enumS, x_minD, x_maxD, r_powW, r_mulW, x_izipM, x_glst, x_izip, iz_tup, iz_lst, x_lcV, x_par3, x_lz3, x_lstS, x_star, x_izip3, x_sumL, x_tru, x_rg2, x_metP, x_yes, lo_l, so_l, so_t, tr_int, x_clear, ex_plB, pb_causes, pb_clashes, pb_undone, on_book, x_iseq, is_tup, is_lst, x_seq, x_ifS, x_asg, x_par, x_for, x_gname, x_gnil, x_gcons, x_gtup, x_gixP, x_tup, x_lst, x_cons, x_nil, x_dK, x_op2, x_op1, x_opL, x_ret, x_mov, x_var, x_fz, x_c, x_next, x_drop, x_if, x_and, x_or, x_not, x_chain, x_tchain, x_tcmp, x_tval, x_tand, x_tor, x_tnot, x_isi, x_call, x_args0, x_argsV, x_argsL, x_put0, x_putN, x_putS, x_evN, x_evE, x_ev0, x_evC, x_atN, x_atD, x_metN, x_pn, x_ps, x_sl, x_rg1, x_orT, x_lrg2, x_endR, x_endN, x_outT, x_outF, x_out0, x_keyC, x_keyN, y_int, y_bl, y_str, y_non, y_tup, y_lst, y_frl, y_nil, y_cons, ats_nil, ats_cons, onAt_0, onAt_s, on_tape, on_int, on_str, on_bl, on_non, on_tup, on_lst, on_hole, on_frl, true_and, and_true, and_assoc, List.getElem?_cons_zero, List.getElem?_cons_succ, Option.some.injEq, exists_and_left, exists_eq_left', exists_eq_left, exists_eq_right, exists_eq_right', tape_left, tape_spot, tape_cells, set_spot, set_left, r_int, r_mod, r_fdiv, r_lt, r_le, r_gt, r_ge, r_eq, r_ne, r_eqS, r_neS, r_add, r_addL, r_sub, r_mul, r_mulL, r_pow, r_intB, r_abs, r_neg, r_lenL, r_lenT, r_lenF, r_append, r_popAt, r_extend, r_tyL, r_min, fz_fz, fzL_fz, List.all_cons, List.all_nil, Bool.and_true, Bool.true_and, D.tup.injEq, D.int.injEq, D.bl.injEq, D.str.injEq, D.lst.injEq, List.cons.injEq, List.length_cons, List.length_nil, ex_plN, List.set_cons_succ, List.set_cons_zero, decide_eq_true_eq, Nat.reduceAdd, Nat.reduceLT, Nat.reduceLeDiff, Nat.zero_add, Bool.not_true, Bool.not_false, Bool.not_eq_true, Bool.and_false, Bool.false_and, D.hole.injEq, ite_true, ite_false, if_true, if_false, reduceIte, Bool.false_eq_true, Nat.lt_add_one, reduceCtorEq, false_and, and_false, exists_false, exists_const, ne_eq, not_false_eq_true, true_or, or_true, or_false, false_or]
  refine ⟨by omega, by omega, ?_⟩
  refine for_inv (fun i s => ∃ c9 c10 c11, s = [a0, a1, a2, .lst o (S.map spotD), a4, .bl r, .int S.length, a7, .lst true (((beatL S r).take i).map spotD), c9, c10, c11, a12, .off, .off, .off, .off]) ⟨_, _, _, rfl⟩ ?_ ?_
  · rintro i x hx s ⟨c9, c10, c11, rfl⟩ E' hnx - - -
    obtain ⟨hi, rfl⟩ := rangeD_at hx
    have hi : i < S.length := by omega
    rw [Int.zero_add]
    have hSi : S[i]? = some (S.getD i []) := by rw [List.getD_eq_getElem?_getD, List.getElem?_eq_getElem hi, Option.getD_some]
    have hli : (S.getD i []).length = n := hn _ (List.mem_of_getElem? hSi)
    obtain ⟨hna, hnb⟩ := near_len (r := r) hi hn
    have fin : w_law_2 E' [a0, a1, a2, .lst o (S.map spotD), a4, .bl r, .int S.length, a7, .lst true (((beatL S r).take i).map spotD), .int i, .lst true [spotD (nearA S r i), spotD (nearB S r i)], c11, a12, .off, .off, .off, .off] := by
      refine law2 hSi (hna.trans hli.symm) (hnb.trans hli.symm) (by omega) (by rw [List.length_map, List.length_take]; omega) fun a11 => ?_
      refine hnx _ ⟨.int i, .lst true [spotD (nearA S r i), spotD (nearB S r i)], a11, ?_⟩
      rw [List.take_add_one, beat_near hi hn, List.map_append]
      rfl
    have at' : ∀ j, j < S.length → L2.atI (S.map spotD) (j : Int) = some (spotD (S.getD j [])) := fun j hj => by
      rw [atI_get (by omega) (by rw [List.length_map]; omega), List.getElem_map, List.getD_eq_getElem?_getD, List.getElem?_eq_getElem hj, Option.getD_some]
      rfl
    have eA : r = true ∨ (0 < i ∧ i + 1 < S.length) → L2.atI (S.map spotD) ((i : Int) - 1) = some (spotD (nearA S r i)) := fun h => by
      unfold nearA
      rw [if_pos h]
      by_cases h0 : i = 0
      · subst h0
        rw [if_pos rfl]
        unfold L2.atI L2.ixN
        rw [if_neg (by decide), if_pos (by rw [List.length_map]; omega)]
        show (S.map spotD)[_]? = _
        rw [List.getElem?_map, List.length_map, show (((0 : Nat) : Int) - 1 + (S.length : Int)).toNat = S.length - 1 by omega, List.getD_eq_getElem?_getD, List.getElem?_eq_getElem (by omega)]
        rfl
      · rw [if_neg h0, show (i : Int) - 1 = ((i - 1 : Nat) : Int) by omega]
        exact at' _ (by omega)
    have eB : r = true ∨ (0 < i ∧ i + 1 < S.length) → L2.atI (S.map spotD) (((i : Int) + 1) % (S.length : Int)) = some (spotD (nearB S r i)) := fun h => by
      unfold nearB
      rw [if_pos h]
      by_cases h1 : i + 1 = S.length
      · rw [if_pos h1, show ((i : Int) + 1) % (S.length : Int) = ((0 : Nat) : Int) by rw [show (i : Int) + 1 = (S.length : Int) by omega]; simp]
        exact at' _ hpos
      · rw [if_neg h1, show ((i : Int) + 1) % (S.length : Int) = ((i + 1 : Nat) : Int) by rw [Int.emod_eq_of_lt (by omega) (by omega)]; omega]
        exact at' _ (by omega)
    have e2 : ¬ (r = true ∨ (0 < i ∧ i + 1 < S.length)) → nearA S r i = S.getD i [] ∧ nearB S r i = S.getD i [] := fun h => by
      unfold nearA nearB
      rw [if_neg h, if_neg h]
      exact ⟨rfl, rfl⟩
    have os : ∀ σ, on (spotD σ) = true := fun _ => rfl
    simp (maxSteps := 2000000) only [x_callZ, x_enumS, x_minD, x_maxD, r_powW, r_mulW, x_izipM, x_glst, x_izip, iz_tup, iz_lst, x_lcV, x_par3, x_lz3, x_lstS, x_star, x_izip3, x_sumL, x_tru, x_rg2, x_metP, x_yes, lo_l, so_l, so_t, tr_int, x_clear, ex_plB, pb_causes, pb_clashes, pb_undone, on_book, x_iseq, is_tup, is_lst, x_seq, x_ifS, x_asg, x_par, x_for, x_gname, x_gnil, x_gcons, x_gtup, x_gixP, x_tup, x_lst, x_cons, x_nil, x_dK, x_op2, x_op1, x_opL, x_ret, x_mov, x_var, x_fz, x_c, x_next, x_drop, x_if, x_and, x_or, x_not, x_chain, x_tchain, x_tcmp, x_tval, x_tand, x_tor, x_tnot, x_isi, x_call, x_args0, x_argsV, x_argsL, x_put0, x_putN, x_putS, x_evN, x_evE, x_ev0, x_evC, x_atN, x_atD, x_metN, x_pn, x_ps, x_sl, x_rg1, x_orT, x_lrg2, x_endR, x_endN, x_outT, x_outF, x_out0, x_keyC, x_keyN, y_int, y_bl, y_str, y_non, y_tup, y_lst, y_frl, y_nil, y_cons, ats_nil, ats_cons, onAt_0, onAt_s, on_tape, on_int, on_str, on_bl, on_non, on_tup, on_lst, on_hole, on_frl, true_and, and_true, and_assoc, List.getElem?_cons_zero, List.getElem?_cons_succ, Option.some.injEq, exists_and_left, exists_eq_left', exists_eq_left, exists_eq_right, exists_eq_right', tape_left, tape_spot, tape_cells, set_spot, set_left, r_int, r_mod, r_fdiv, r_lt, r_le, r_gt, r_ge, r_eq, r_ne, r_eqS, r_neS, r_add, r_addL, r_sub, r_mul, r_mulL, r_pow, r_intB, r_abs, r_neg, r_lenL, r_lenT, r_lenF, r_append, r_popAt, r_extend, r_tyL, r_min, fz_fz, fzL_fz, List.all_cons, List.all_nil, Bool.and_true, Bool.true_and, D.tup.injEq, D.int.injEq, D.bl.injEq, D.str.injEq, D.lst.injEq, List.cons.injEq, List.length_cons, List.length_nil, ex_plN, List.set_cons_succ, List.set_cons_zero, decide_eq_true_eq, Nat.reduceAdd, Nat.reduceLT, Nat.reduceLeDiff, Nat.zero_add, Bool.not_true, Bool.not_false, Bool.not_eq_true, Bool.and_false, Bool.false_and, D.hole.injEq, ite_true, ite_false, if_true, if_false, reduceIte, Bool.false_eq_true, Nat.lt_add_one, reduceCtorEq, false_and, and_false, exists_false, exists_const, ne_eq, not_false_eq_true, true_or, or_true, or_false, false_or]
    have yes : (r = true ∨ (0 < i ∧ i + 1 < S.length)) → o_ix (D.lst o (List.map spotD S)) (D.int ((i : Int) - 1)) fun z => (0 : Int) < (S.length : Int) ∧ o_ix (D.lst o (List.map spotD S)) (D.int (((i : Int) + 1) % (S.length : Int))) fun z_1 => w_law_2 E' [a0, a1, a2, D.lst o (List.map spotD S), a4, D.bl r, D.int (S.length : Int), a7, D.lst true (List.map spotD (List.take i (beatL S r))), D.int (i : Int), D.lst true [z, z_1], c11, a12, D.off, D.off, D.off, D.off] := fun h => by
      rw [ix_at (eA h) fz_spot]
      refine ⟨by omega, ?_⟩
      rw [ix_at (eB h) fz_spot]
      exact fin
    split
    · rename_i h
      exact yes (.inl h)
    · rename_i hr
      split
      · split
        · rename_i h1 h2
          exact yes (.inr ⟨by omega, by omega⟩)
        · rename_i h1 h2
          obtain ⟨ea, eb⟩ := e2 (fun h => by rcases h with h | h; exact hr h; omega)
          rw [ea, eb] at fin
          rw [ix_at (at' i hi) fz_spot]
          exact ⟨fz_spot, by decide, by decide, by rw [sizeLine_eq]; decide, fin⟩
      · rename_i h1
        obtain ⟨ea, eb⟩ := e2 (fun h => by rcases h with h | h; exact hr h; omega)
        rw [ea, eb] at fin
        rw [ix_at (at' i hi) fz_spot]
        exact ⟨fz_spot, by decide, by decide, by rw [sizeLine_eq]; decide, fin⟩
  · rintro s ⟨c9, c10, c11, rfl⟩
    rw [rangeD_len]
    rw [List.take_of_length_le (by unfold beatL; rw [z3_len]; omega)]
    exact q _ _ _
end
end Q

namespace Q
open PySem PySem.Spec PyProof.Rows L2 M Z3
structure Flat (S : List (List Int)) : Prop where
  len : S.length ≤ 60
  row : ∀ σ ∈ S, σ.length ≤ 60
  val : ∀ σ ∈ S, ∀ i ∈ σ, i.natAbs ≤ 60
theorem Flat.spot {S : List (List Int)} (h : Flat S) : (∀ x ∈ S.map spotD, Nice 2 x) ∧ wt (.lst false (S.map spotD)) ≤ 390000 := by
  have hI : ∀ σ ∈ S, ∀ x ∈ σ.map D.int, Nice 1 x := fun σ hσ x hx => by
    obtain ⟨i, hi, rfl⟩ := List.mem_map.mp hx
    have := h.val σ hσ i hi
    exact nice_int (by omega)
  have hN : ∀ x ∈ S.map spotD, Nice 2 x := fun x hx => by
    obtain ⟨σ, hσ, rfl⟩ := List.mem_map.mp hx
    exact nice_tup (hI σ hσ)
  have hw : ∀ x ∈ S.map spotD, wt x ≤ 420 := fun x hx => by
    obtain ⟨σ, hσ, rfl⟩ := List.mem_map.mp hx
    obtain ⟨_, ps, e, _⟩ := nice_all (hI σ hσ)
    show wt (.tup (σ.map .int)) ≤ 420
    rw [wt_tup e]
    refine Nat.le_trans (wtL_le (w := 6) fun y hy => ?_) ?_
    · obtain ⟨i, hi, rfl⟩ := List.mem_map.mp hy
      have := h.val σ hσ i hi
      exact wt_int (by omega)
    · rw [List.length_map]
      have := h.row σ hσ
      omega
  refine ⟨hN, ?_⟩
  obtain ⟨_, ps, e, _⟩ := nice_all hN
  rw [wt_lst e]
  refine Nat.le_trans (wtL_le hw) ?_
  rw [List.length_map]
  have := h.len
  omega
theorem r_reprO {k : Nat} {o : Bool} {xs : List D} {Q : D → Prop} (h : ∀ x ∈ xs, Nice k x) (hk : k + 1 ≤ 60) (hw : wt (.lst false xs) ≤ 390000) : o_repr [.lst o xs] Q ↔ Q (.str (shownD (.lst false xs))) := by
  rw [← r_repr (Q := Q) (nice_lst h) hk hw]
  have e : toPy (.lst o xs) = toPy (.lst false xs) := rfl
  show (∃ p, toPy (.lst o xs) = some p ∧ _) ↔ ∃ p, toPy (.lst false xs) = some p ∧ _
  rw [e]
theorem r_neSame {k : Nat} {o o' : Bool} {xs : List D} {Q : D → Prop} (h : ∀ x ∈ xs, Nice k x) (hk : k + 1 ≤ 64) : o_ne (.lst o xs) (.lst o' xs) Q ↔ Q (.bl false) := by
  obtain ⟨p, e, ok⟩ := (nice_lst h).py
  have e1 : toPy (.lst o xs) = some p := e
  have e2 : toPy (.lst o' xs) = some p := e
  have sh : SeqAt.shaped p = true := ok.shaped hk
  have rf : PyData.eqv p p = true := PySem.SeqAt.eqv_refl p ok.lay
  show (∃ p q, toPy (.lst o xs) = some p ∧ toPy (.lst o' xs) = some q ∧ SeqAt.shaped p = true ∧ SeqAt.shaped q = true ∧ Q (.bl (!(PyData.eqv p q)))) ↔ _
  rw [e1, e2]
  constructor
  · rintro ⟨p1, q1, h1, h2, _, _, q⟩
    cases h1; cases h2
    rw [rf] at q
    exact q
  · intro q
    exact ⟨p, p, rfl, rfl, sh, sh, by rw [rf]; exact q⟩
end Q

namespace Q
open PySem PySem.Spec PyProof.Rows L2 M Z3
theorem trip_std {S : List (List Int)} {r : Bool} (h0 : S ≠ []) : ∀ t ∈ trip (firstL S r :: S.dropLast) S (S.tail ++ [lastL S r]), t.1 ∈ S ∧ t.2.1 ∈ S ∧ t.2.2 ∈ S := fun t ht => by
  obtain ⟨q1, q2, q3⟩ := trip_mem ht
  have hx0 : (S.head?).getD [] ∈ S := by cases S with
    | nil => exact absurd rfl h0
    | cons a l => exact List.mem_cons_self
  have hx1 : (S.getLast?).getD [] ∈ S := by
    rw [List.getLast?_eq_some_getLast h0]
    exact List.getLast_mem h0
  refine ⟨?_, q2, ?_⟩
  · rcases List.mem_cons.mp q1 with e | e
    · rw [e]; cases r <;> assumption
    · exact (List.dropLast_sublist S).subset e
  · rcases List.mem_append.mp q3 with e | e
    · exact List.mem_of_mem_tail e
    · rw [List.mem_singleton.mp e]; cases r <;> assumption
theorem meet_mem {x y z : List Int} {i : Int} (h : i ∈ meetL x y z) : i ∈ x ∨ i ∈ y := by
  unfold meetL at h
  rw [z3_trip] at h
  obtain ⟨t, ht, rfl⟩ := List.mem_map.mp h
  obtain ⟨q1, q2, _⟩ := trip_mem ht
  split
  · exact .inl q1
  · exact .inr q2
theorem Flat.beat {S : List (List Int)} {r : Bool} (h0 : S ≠ []) (h : Flat S) : Flat (beatL S r) := by
  have e : beatL S r = (trip (firstL S r :: S.dropLast) S (S.tail ++ [lastL S r])).map fun t => meetL t.1 t.2.1 t.2.2 := by
    unfold beatL
    rw [z3_trip]
    rfl
  rw [e]
  refine ⟨by rw [List.length_map, trip_len]; have := h.len; omega, fun σ hσ => ?_, fun σ hσ i hi => ?_⟩
  · obtain ⟨t, ht, rfl⟩ := List.mem_map.mp hσ
    obtain ⟨q1, _, _⟩ := trip_std h0 t ht
    unfold meetL
    rw [z3_len]
    have := h.row _ q1
    omega
  · obtain ⟨t, ht, rfl⟩ := List.mem_map.mp hσ
    obtain ⟨q1, q2, _⟩ := trip_std h0 t ht
    rcases meet_mem hi with hi | hi
    · exact h.val _ q1 i hi
    · exact h.val _ q2 i hi
section
variable {E : DEnds} {a0 a1 a2 a4 a9 a10 a11 a12 : D} {S : List (List Int)} {r o o7 o8 : Bool} {n : Nat}
theorem law7 (h0 : S ≠ []) (hF : Flat S) (hn : ∀ σ ∈ S, σ.length = n) (q : ∀ b3 b7 b8 b9 b10 b11 b12, E.nx [a0, a1, a2, b3, a4, .bl r, .int S.length, b7, b8, b9, b10, b11, b12, .off, .off, .off, .off]) :
    w_law_7 E [a0, a1, a2, .lst o (S.map spotD), a4, .bl r, .int S.length, .lst o7 (S.map spotD), .lst o8 ((beatL S r).map spotD), a9, a10, a11, a12, .off, .off, .off, .off] := by
  have hB := hF.beat (r := r) h0
  have hn60 : n ≤ 60 := by
    cases S with
    | nil => exact absurd rfl h0
    | cons a l =>
      rw [← hn a List.mem_cons_self]
      exact hF.row a List.mem_cons_self
  have tb : ∀ (r' : Bool) (Q : D → List D → Prop), Q (.lst true ((beatL S r').map spotD)) [.off, .off] → S_beat [.lst false (S.map spotD), .bl r'] Q := fun r' Q h => ⟨false, S, r', n, rfl, h0, by have := hF.len; omega, hn, by omega, h⟩
  have rp : ∀ (o : Bool) (Q : D → Prop), o_repr [.lst o ((beatL S r).map spotD)] Q ↔ Q (.str (shownD (.lst false ((beatL S r).map spotD)))) := fun o Q => r_reprO hB.spot.1 (by decide) hB.spot.2
  have ne1 : ∀ (o o' : Bool) (Q : D → Prop), o_ne (.lst o (S.map spotD)) (.lst o' (S.map spotD)) Q ↔ Q (.bl false) := fun o o' Q => r_neSame hF.spot.1 (by decide)
  unfold w_law_7
  simp (maxSteps := 2000000) only [x_callZ, x_enumS, x_minD, x_maxD, r_powW, r_mulW, x_izipM, x_glst, x_izip, iz_tup, iz_lst, x_lcV, x_par3, x_lz3, x_lstS, x_star, x_izip3, x_sumL, x_tru, x_rg2, x_metP, x_yes, lo_l, so_l, so_t, tr_int, x_clear, ex_plB, pb_causes, pb_clashes, pb_undone, on_book, x_iseq, is_tup, is_lst, x_seq, x_ifS, x_asg, x_par, x_for, x_gname, x_gnil, x_gcons, x_gtup, x_gixP, x_tup, x_lst, x_cons, x_nil, x_dK, x_op2, x_op1, x_opL, x_ret, x_mov, x_var, x_fz, x_c, x_next, x_drop, x_if, x_and, x_or, x_not, x_chain, x_tchain, x_tcmp, x_tval, x_tand, x_tor, x_tnot, x_isi, x_call, x_args0, x_argsV, x_argsL, x_put0, x_putN, x_putS, x_evN, x_evE, x_ev0, x_evC, x_atN, x_atD, x_metN, x_pn, x_ps, x_sl, x_rg1, x_orT, x_lrg2, x_endR, x_endN, x_outT, x_outF, x_out0, x_keyC, x_keyN, y_int, y_bl, y_str, y_non, y_tup, y_lst, y_frl, y_nil, y_cons, ats_nil, ats_cons, onAt_0, onAt_s, on_tape, on_int, on_str, on_bl, on_non, on_tup, on_lst, on_hole, on_frl, true_and, and_true, and_assoc, List.getElem?_cons_zero, List.getElem?_cons_succ, Option.some.injEq, exists_and_left, exists_eq_left', exists_eq_left, exists_eq_right, exists_eq_right', tape_left, tape_spot, tape_cells, set_spot, set_left, r_int, r_mod, r_fdiv, r_lt, r_le, r_gt, r_ge, r_eq, r_ne, r_eqS, r_neS, r_add, r_addL, r_sub, r_mul, r_mulL, r_pow, r_intB, r_abs, r_neg, r_lenL, r_lenT, r_lenF, r_append, r_popAt, r_extend, r_tyL, r_min, fz_fz, fzL_fz, List.all_cons, List.all_nil, Bool.and_true, Bool.true_and, D.tup.injEq, D.int.injEq, D.bl.injEq, D.str.injEq, D.lst.injEq, List.cons.injEq, List.length_cons, List.length_nil, ex_plN, List.set_cons_succ, List.set_cons_zero, decide_eq_true_eq, Nat.reduceAdd, Nat.reduceLT, Nat.reduceLeDiff, Nat.zero_add, Bool.not_true, Bool.not_false, Bool.not_eq_true, Bool.and_false, Bool.false_and, D.hole.injEq, ite_true, ite_false, if_true, if_false, reduceIte, Bool.false_eq_true, Nat.lt_add_one, reduceCtorEq, false_and, and_false, exists_false, exists_const, ne_eq, not_false_eq_true, true_or, or_true, or_false, false_or, fzL_spots]
  refine tb r _ ?_
  simp (maxSteps := 2000000) only [x_callZ, x_enumS, x_minD, x_maxD, r_powW, r_mulW, x_izipM, x_glst, x_izip, iz_tup, iz_lst, x_lcV, x_par3, x_lz3, x_lstS, x_star, x_izip3, x_sumL, x_tru, x_rg2, x_metP, x_yes, lo_l, so_l, so_t, tr_int, x_clear, ex_plB, pb_causes, pb_clashes, pb_undone, on_book, x_iseq, is_tup, is_lst, x_seq, x_ifS, x_asg, x_par, x_for, x_gname, x_gnil, x_gcons, x_gtup, x_gixP, x_tup, x_lst, x_cons, x_nil, x_dK, x_op2, x_op1, x_opL, x_ret, x_mov, x_var, x_fz, x_c, x_next, x_drop, x_if, x_and, x_or, x_not, x_chain, x_tchain, x_tcmp, x_tval, x_tand, x_tor, x_tnot, x_isi, x_call, x_args0, x_argsV, x_argsL, x_put0, x_putN, x_putS, x_evN, x_evE, x_ev0, x_evC, x_atN, x_atD, x_metN, x_pn, x_ps, x_sl, x_rg1, x_orT, x_lrg2, x_endR, x_endN, x_outT, x_outF, x_out0, x_keyC, x_keyN, y_int, y_bl, y_str, y_non, y_tup, y_lst, y_frl, y_nil, y_cons, ats_nil, ats_cons, onAt_0, onAt_s, on_tape, on_int, on_str, on_bl, on_non, on_tup, on_lst, on_hole, on_frl, true_and, and_true, and_assoc, List.getElem?_cons_zero, List.getElem?_cons_succ, Option.some.injEq, exists_and_left, exists_eq_left', exists_eq_left, exists_eq_right, exists_eq_right', tape_left, tape_spot, tape_cells, set_spot, set_left, r_int, r_mod, r_fdiv, r_lt, r_le, r_gt, r_ge, r_eq, r_ne, r_eqS, r_neS, r_add, r_addL, r_sub, r_mul, r_mulL, r_pow, r_intB, r_abs, r_neg, r_lenL, r_lenT, r_lenF, r_append, r_popAt, r_extend, r_tyL, r_min, fz_fz, fzL_fz, List.all_cons, List.all_nil, Bool.and_true, Bool.true_and, D.tup.injEq, D.int.injEq, D.bl.injEq, D.str.injEq, D.lst.injEq, List.cons.injEq, List.length_cons, List.length_nil, ex_plN, List.set_cons_succ, List.set_cons_zero, decide_eq_true_eq, Nat.reduceAdd, Nat.reduceLT, Nat.reduceLeDiff, Nat.zero_add, Bool.not_true, Bool.not_false, Bool.not_eq_true, Bool.and_false, Bool.false_and, D.hole.injEq, ite_true, ite_false, if_true, if_false, reduceIte, Bool.false_eq_true, Nat.lt_add_one, reduceCtorEq, false_and, and_false, exists_false, exists_const, ne_eq, not_false_eq_true, true_or, or_true, or_false, false_or]
  unfold w_law_6
  simp (maxSteps := 2000000) only [x_callZ, x_enumS, x_minD, x_maxD, r_powW, r_mulW, x_izipM, x_glst, x_izip, iz_tup, iz_lst, x_lcV, x_par3, x_lz3, x_lstS, x_star, x_izip3, x_sumL, x_tru, x_rg2, x_metP, x_yes, lo_l, so_l, so_t, tr_int, x_clear, ex_plB, pb_causes, pb_clashes, pb_undone, on_book, x_iseq, is_tup, is_lst, x_seq, x_ifS, x_asg, x_par, x_for, x_gname, x_gnil, x_gcons, x_gtup, x_gixP, x_tup, x_lst, x_cons, x_nil, x_dK, x_op2, x_op1, x_opL, x_ret, x_mov, x_var, x_fz, x_c, x_next, x_drop, x_if, x_and, x_or, x_not, x_chain, x_tchain, x_tcmp, x_tval, x_tand, x_tor, x_tnot, x_isi, x_call, x_args0, x_argsV, x_argsL, x_put0, x_putN, x_putS, x_evN, x_evE, x_ev0, x_evC, x_atN, x_atD, x_metN, x_pn, x_ps, x_sl, x_rg1, x_orT, x_lrg2, x_endR, x_endN, x_outT, x_outF, x_out0, x_keyC, x_keyN, y_int, y_bl, y_str, y_non, y_tup, y_lst, y_frl, y_nil, y_cons, ats_nil, ats_cons, onAt_0, onAt_s, on_tape, on_int, on_str, on_bl, on_non, on_tup, on_lst, on_hole, on_frl, true_and, and_true, and_assoc, List.getElem?_cons_zero, List.getElem?_cons_succ, Option.some.injEq, exists_and_left, exists_eq_left', exists_eq_left, exists_eq_right, exists_eq_right', tape_left, tape_spot, tape_cells, set_spot, set_left, r_int, r_mod, r_fdiv, r_lt, r_le, r_gt, r_ge, r_eq, r_ne, r_eqS, r_neS, r_add, r_addL, r_sub, r_mul, r_mulL, r_pow, r_intB, r_abs, r_neg, r_lenL, r_lenT, r_lenF, r_append, r_popAt, r_extend, r_tyL, r_min, fz_fz, fzL_fz, List.all_cons, List.all_nil, Bool.and_true, Bool.true_and, D.tup.injEq, D.int.injEq, D.bl.injEq, D.str.injEq, D.lst.injEq, List.cons.injEq, List.length_cons, List.length_nil, ex_plN, List.set_cons_succ, List.set_cons_zero, decide_eq_true_eq, Nat.reduceAdd, Nat.reduceLT, Nat.reduceLeDiff, Nat.zero_add, Bool.not_true, Bool.not_false, Bool.not_eq_true, Bool.and_false, Bool.false_and, D.hole.injEq, ite_true, ite_false, if_true, if_false, reduceIte, Bool.false_eq_true, Nat.lt_add_one, reduceCtorEq, false_and, and_false, exists_false, exists_const, ne_eq, not_false_eq_true, true_or, or_true, or_false, false_or, rp]
  simp only [eq_self, decide_true, x_callZ, x_enumS, x_minD, x_maxD, r_powW, r_mulW, x_izipM, x_glst, x_izip, iz_tup, iz_lst, x_lcV, x_par3, x_lz3, x_lstS, x_star, x_izip3, x_sumL, x_tru, x_rg2, x_metP, x_yes, lo_l, so_l, so_t, tr_int, x_clear, ex_plB, pb_causes, pb_clashes, pb_undone, on_book, x_iseq, is_tup, is_lst, x_seq, x_ifS, x_asg, x_par, x_for, x_gname, x_gnil, x_gcons, x_gtup, x_gixP, x_tup, x_lst, x_cons, x_nil, x_dK, x_op2, x_op1, x_opL, x_ret, x_mov, x_var, x_fz, x_c, x_next, x_drop, x_if, x_and, x_or, x_not, x_chain, x_tchain, x_tcmp, x_tval, x_tand, x_tor, x_tnot, x_isi, x_call, x_args0, x_argsV, x_argsL, x_put0, x_putN, x_putS, x_evN, x_evE, x_ev0, x_evC, x_atN, x_atD, x_metN, x_pn, x_ps, x_sl, x_rg1, x_orT, x_lrg2, x_endR, x_endN, x_outT, x_outF, x_out0, x_keyC, x_keyN, y_int, y_bl, y_str, y_non, y_tup, y_lst, y_frl, y_nil, y_cons, ats_nil, ats_cons, onAt_0, onAt_s, on_tape, on_int, on_str, on_bl, on_non, on_tup, on_lst, on_hole, on_frl, true_and, and_true, and_assoc, List.getElem?_cons_zero, List.getElem?_cons_succ, Option.some.injEq, exists_and_left, exists_eq_left', exists_eq_left, exists_eq_right, exists_eq_right', tape_left, tape_spot, tape_cells, set_spot, set_left, r_int, r_mod, r_fdiv, r_lt, r_le, r_gt, r_ge, r_eq, r_ne, r_eqS, r_neS, r_add, r_addL, r_sub, r_mul, r_mulL, r_pow, r_intB, r_abs, r_neg, r_lenL, r_lenT, r_lenF, r_append, r_popAt, r_extend, r_tyL, r_min, fz_fz, fzL_fz, List.all_cons, List.all_nil, Bool.and_true, Bool.true_and, D.tup.injEq, D.int.injEq, D.bl.injEq, D.str.injEq, D.lst.injEq, List.cons.injEq, List.length_cons, List.length_nil, ex_plN, List.set_cons_succ, List.set_cons_zero, decide_eq_true_eq, Nat.reduceAdd, Nat.reduceLT, Nat.reduceLeDiff, Nat.zero_add, Bool.not_true, Bool.not_false, Bool.not_eq_true, Bool.and_false, Bool.false_and, D.hole.injEq, ite_true, ite_false, if_true, if_false, reduceIte, Bool.false_eq_true, Nat.lt_add_one, reduceCtorEq, false_and, and_false, exists_false, exists_const, ne_eq, not_false_eq_true, true_or, or_true, or_false, false_or]
  unfold w_law_5
  simp (maxSteps := 2000000) only [x_callZ, x_enumS, x_minD, x_maxD, r_powW, r_mulW, x_izipM, x_glst, x_izip, iz_tup, iz_lst, x_lcV, x_par3, x_lz3, x_lstS, x_star, x_izip3, x_sumL, x_tru, x_rg2, x_metP, x_yes, lo_l, so_l, so_t, tr_int, x_clear, ex_plB, pb_causes, pb_clashes, pb_undone, on_book, x_iseq, is_tup, is_lst, x_seq, x_ifS, x_asg, x_par, x_for, x_gname, x_gnil, x_gcons, x_gtup, x_gixP, x_tup, x_lst, x_cons, x_nil, x_dK, x_op2, x_op1, x_opL, x_ret, x_mov, x_var, x_fz, x_c, x_next, x_drop, x_if, x_and, x_or, x_not, x_chain, x_tchain, x_tcmp, x_tval, x_tand, x_tor, x_tnot, x_isi, x_call, x_args0, x_argsV, x_argsL, x_put0, x_putN, x_putS, x_evN, x_evE, x_ev0, x_evC, x_atN, x_atD, x_metN, x_pn, x_ps, x_sl, x_rg1, x_orT, x_lrg2, x_endR, x_endN, x_outT, x_outF, x_out0, x_keyC, x_keyN, y_int, y_bl, y_str, y_non, y_tup, y_lst, y_frl, y_nil, y_cons, ats_nil, ats_cons, onAt_0, onAt_s, on_tape, on_int, on_str, on_bl, on_non, on_tup, on_lst, on_hole, on_frl, true_and, and_true, and_assoc, List.getElem?_cons_zero, List.getElem?_cons_succ, Option.some.injEq, exists_and_left, exists_eq_left', exists_eq_left, exists_eq_right, exists_eq_right', tape_left, tape_spot, tape_cells, set_spot, set_left, r_int, r_mod, r_fdiv, r_lt, r_le, r_gt, r_ge, r_eq, r_ne, r_eqS, r_neS, r_add, r_addL, r_sub, r_mul, r_mulL, r_pow, r_intB, r_abs, r_neg, r_lenL, r_lenT, r_lenF, r_append, r_popAt, r_extend, r_tyL, r_min, fz_fz, fzL_fz, List.all_cons, List.all_nil, Bool.and_true, Bool.true_and, D.tup.injEq, D.int.injEq, D.bl.injEq, D.str.injEq, D.lst.injEq, List.cons.injEq, List.length_cons, List.length_nil, ex_plN, List.set_cons_succ, List.set_cons_zero, decide_eq_true_eq, Nat.reduceAdd, Nat.reduceLT, Nat.reduceLeDiff, Nat.zero_add, Bool.not_true, Bool.not_false, Bool.not_eq_true, Bool.and_false, Bool.false_and, D.hole.injEq, ite_true, ite_false, if_true, if_false, reduceIte, Bool.false_eq_true, Nat.lt_add_one, reduceCtorEq, false_and, and_false, exists_false, exists_const, ne_eq, not_false_eq_true, true_or, or_true, or_false, false_or, tyD_lst]
  unfold w_law_4
  simp (maxSteps := 2000000) only [x_callZ, x_enumS, x_minD, x_maxD, r_powW, r_mulW, x_izipM, x_glst, x_izip, iz_tup, iz_lst, x_lcV, x_par3, x_lz3, x_lstS, x_star, x_izip3, x_sumL, x_tru, x_rg2, x_metP, x_yes, lo_l, so_l, so_t, tr_int, x_clear, ex_plB, pb_causes, pb_clashes, pb_undone, on_book, x_iseq, is_tup, is_lst, x_seq, x_ifS, x_asg, x_par, x_for, x_gname, x_gnil, x_gcons, x_gtup, x_gixP, x_tup, x_lst, x_cons, x_nil, x_dK, x_op2, x_op1, x_opL, x_ret, x_mov, x_var, x_fz, x_c, x_next, x_drop, x_if, x_and, x_or, x_not, x_chain, x_tchain, x_tcmp, x_tval, x_tand, x_tor, x_tnot, x_isi, x_call, x_args0, x_argsV, x_argsL, x_put0, x_putN, x_putS, x_evN, x_evE, x_ev0, x_evC, x_atN, x_atD, x_metN, x_pn, x_ps, x_sl, x_rg1, x_orT, x_lrg2, x_endR, x_endN, x_outT, x_outF, x_out0, x_keyC, x_keyN, y_int, y_bl, y_str, y_non, y_tup, y_lst, y_frl, y_nil, y_cons, ats_nil, ats_cons, onAt_0, onAt_s, on_tape, on_int, on_str, on_bl, on_non, on_tup, on_lst, on_hole, on_frl, true_and, and_true, and_assoc, List.getElem?_cons_zero, List.getElem?_cons_succ, Option.some.injEq, exists_and_left, exists_eq_left', exists_eq_left, exists_eq_right, exists_eq_right', tape_left, tape_spot, tape_cells, set_spot, set_left, r_int, r_mod, r_fdiv, r_lt, r_le, r_gt, r_ge, r_eq, r_ne, r_eqS, r_neS, r_add, r_addL, r_sub, r_mul, r_mulL, r_pow, r_intB, r_abs, r_neg, r_lenL, r_lenT, r_lenF, r_append, r_popAt, r_extend, r_tyL, r_min, fz_fz, fzL_fz, List.all_cons, List.all_nil, Bool.and_true, Bool.true_and, D.tup.injEq, D.int.injEq, D.bl.injEq, D.str.injEq, D.lst.injEq, List.cons.injEq, List.length_cons, List.length_nil, ex_plN, List.set_cons_succ, List.set_cons_zero, decide_eq_true_eq, Nat.reduceAdd, Nat.reduceLT, Nat.reduceLeDiff, Nat.zero_add, Bool.not_true, Bool.not_false, Bool.not_eq_true, Bool.and_false, Bool.false_and, D.hole.injEq, ite_true, ite_false, if_true, if_false, reduceIte, Bool.false_eq_true, Nat.lt_add_one, reduceCtorEq, false_and, and_false, exists_false, exists_const, ne_eq, not_false_eq_true, true_or, or_true, or_false, false_or, ne1]
  unfold w_law_3
  cases r
  · simp (maxSteps := 2000000) only [x_callZ, x_enumS, x_minD, x_maxD, r_powW, r_mulW, x_izipM, x_glst, x_izip, iz_tup, iz_lst, x_lcV, x_par3, x_lz3, x_lstS, x_star, x_izip3, x_sumL, x_tru, x_rg2, x_metP, x_yes, lo_l, so_l, so_t, tr_int, x_clear, ex_plB, pb_causes, pb_clashes, pb_undone, on_book, x_iseq, is_tup, is_lst, x_seq, x_ifS, x_asg, x_par, x_for, x_gname, x_gnil, x_gcons, x_gtup, x_gixP, x_tup, x_lst, x_cons, x_nil, x_dK, x_op2, x_op1, x_opL, x_ret, x_mov, x_var, x_fz, x_c, x_next, x_drop, x_if, x_and, x_or, x_not, x_chain, x_tchain, x_tcmp, x_tval, x_tand, x_tor, x_tnot, x_isi, x_call, x_args0, x_argsV, x_argsL, x_put0, x_putN, x_putS, x_evN, x_evE, x_ev0, x_evC, x_atN, x_atD, x_metN, x_pn, x_ps, x_sl, x_rg1, x_orT, x_lrg2, x_endR, x_endN, x_outT, x_outF, x_out0, x_keyC, x_keyN, y_int, y_bl, y_str, y_non, y_tup, y_lst, y_frl, y_nil, y_cons, ats_nil, ats_cons, onAt_0, onAt_s, on_tape, on_int, on_str, on_bl, on_non, on_tup, on_lst, on_hole, on_frl, true_and, and_true, and_assoc, List.getElem?_cons_zero, List.getElem?_cons_succ, Option.some.injEq, exists_and_left, exists_eq_left', exists_eq_left, exists_eq_right, exists_eq_right', tape_left, tape_spot, tape_cells, set_spot, set_left, r_int, r_mod, r_fdiv, r_lt, r_le, r_gt, r_ge, r_eq, r_ne, r_eqS, r_neS, r_add, r_addL, r_sub, r_mul, r_mulL, r_pow, r_intB, r_abs, r_neg, r_lenL, r_lenT, r_lenF, r_append, r_popAt, r_extend, r_tyL, r_min, fz_fz, fzL_fz, List.all_cons, List.all_nil, Bool.and_true, Bool.true_and, D.tup.injEq, D.int.injEq, D.bl.injEq, D.str.injEq, D.lst.injEq, List.cons.injEq, List.length_cons, List.length_nil, ex_plN, List.set_cons_succ, List.set_cons_zero, decide_eq_true_eq, Nat.reduceAdd, Nat.reduceLT, Nat.reduceLeDiff, Nat.zero_add, Bool.not_true, Bool.not_false, Bool.not_eq_true, Bool.and_false, Bool.false_and, D.hole.injEq, ite_true, ite_false, if_true, if_false, reduceIte, Bool.false_eq_true, Nat.lt_add_one, reduceCtorEq, false_and, and_false, exists_false, exists_const, ne_eq, not_false_eq_true, true_or, or_true, or_false, false_or, fzL_spots]
    refine tb false _ ?_
    simp (maxSteps := 2000000) only [x_callZ, x_enumS, x_minD, x_maxD, r_powW, r_mulW, x_izipM, x_glst, x_izip, iz_tup, iz_lst, x_lcV, x_par3, x_lz3, x_lstS, x_star, x_izip3, x_sumL, x_tru, x_rg2, x_metP, x_yes, lo_l, so_l, so_t, tr_int, x_clear, ex_plB, pb_causes, pb_clashes, pb_undone, on_book, x_iseq, is_tup, is_lst, x_seq, x_ifS, x_asg, x_par, x_for, x_gname, x_gnil, x_gcons, x_gtup, x_gixP, x_tup, x_lst, x_cons, x_nil, x_dK, x_op2, x_op1, x_opL, x_ret, x_mov, x_var, x_fz, x_c, x_next, x_drop, x_if, x_and, x_or, x_not, x_chain, x_tchain, x_tcmp, x_tval, x_tand, x_tor, x_tnot, x_isi, x_call, x_args0, x_argsV, x_argsL, x_put0, x_putN, x_putS, x_evN, x_evE, x_ev0, x_evC, x_atN, x_atD, x_metN, x_pn, x_ps, x_sl, x_rg1, x_orT, x_lrg2, x_endR, x_endN, x_outT, x_outF, x_out0, x_keyC, x_keyN, y_int, y_bl, y_str, y_non, y_tup, y_lst, y_frl, y_nil, y_cons, ats_nil, ats_cons, onAt_0, onAt_s, on_tape, on_int, on_str, on_bl, on_non, on_tup, on_lst, on_hole, on_frl, true_and, and_true, and_assoc, List.getElem?_cons_zero, List.getElem?_cons_succ, Option.some.injEq, exists_and_left, exists_eq_left', exists_eq_left, exists_eq_right, exists_eq_right', tape_left, tape_spot, tape_cells, set_spot, set_left, r_int, r_mod, r_fdiv, r_lt, r_le, r_gt, r_ge, r_eq, r_ne, r_eqS, r_neS, r_add, r_addL, r_sub, r_mul, r_mulL, r_pow, r_intB, r_abs, r_neg, r_lenL, r_lenT, r_lenF, r_append, r_popAt, r_extend, r_tyL, r_min, fz_fz, fzL_fz, List.all_cons, List.all_nil, Bool.and_true, Bool.true_and, D.tup.injEq, D.int.injEq, D.bl.injEq, D.str.injEq, D.lst.injEq, List.cons.injEq, List.length_cons, List.length_nil, ex_plN, List.set_cons_succ, List.set_cons_zero, decide_eq_true_eq, Nat.reduceAdd, Nat.reduceLT, Nat.reduceLeDiff, Nat.zero_add, Bool.not_true, Bool.not_false, Bool.not_eq_true, Bool.and_false, Bool.false_and, D.hole.injEq, ite_true, ite_false, if_true, if_false, reduceIte, Bool.false_eq_true, Nat.lt_add_one, reduceCtorEq, false_and, and_false, exists_false, exists_const, ne_eq, not_false_eq_true, true_or, or_true, or_false, false_or, rp]
    simp only [eq_self, decide_true, x_callZ, x_enumS, x_minD, x_maxD, r_powW, r_mulW, x_izipM, x_glst, x_izip, iz_tup, iz_lst, x_lcV, x_par3, x_lz3, x_lstS, x_star, x_izip3, x_sumL, x_tru, x_rg2, x_metP, x_yes, lo_l, so_l, so_t, tr_int, x_clear, ex_plB, pb_causes, pb_clashes, pb_undone, on_book, x_iseq, is_tup, is_lst, x_seq, x_ifS, x_asg, x_par, x_for, x_gname, x_gnil, x_gcons, x_gtup, x_gixP, x_tup, x_lst, x_cons, x_nil, x_dK, x_op2, x_op1, x_opL, x_ret, x_mov, x_var, x_fz, x_c, x_next, x_drop, x_if, x_and, x_or, x_not, x_chain, x_tchain, x_tcmp, x_tval, x_tand, x_tor, x_tnot, x_isi, x_call, x_args0, x_argsV, x_argsL, x_put0, x_putN, x_putS, x_evN, x_evE, x_ev0, x_evC, x_atN, x_atD, x_metN, x_pn, x_ps, x_sl, x_rg1, x_orT, x_lrg2, x_endR, x_endN, x_outT, x_outF, x_out0, x_keyC, x_keyN, y_int, y_bl, y_str, y_non, y_tup, y_lst, y_frl, y_nil, y_cons, ats_nil, ats_cons, onAt_0, onAt_s, on_tape, on_int, on_str, on_bl, on_non, on_tup, on_lst, on_hole, on_frl, true_and, and_true, and_assoc, List.getElem?_cons_zero, List.getElem?_cons_succ, Option.some.injEq, exists_and_left, exists_eq_left', exists_eq_left, exists_eq_right, exists_eq_right', tape_left, tape_spot, tape_cells, set_spot, set_left, r_int, r_mod, r_fdiv, r_lt, r_le, r_gt, r_ge, r_eq, r_ne, r_eqS, r_neS, r_add, r_addL, r_sub, r_mul, r_mulL, r_pow, r_intB, r_abs, r_neg, r_lenL, r_lenT, r_lenF, r_append, r_popAt, r_extend, r_tyL, r_min, fz_fz, fzL_fz, List.all_cons, List.all_nil, Bool.and_true, Bool.true_and, D.tup.injEq, D.int.injEq, D.bl.injEq, D.str.injEq, D.lst.injEq, List.cons.injEq, List.length_cons, List.length_nil, ex_plN, List.set_cons_succ, List.set_cons_zero, decide_eq_true_eq, Nat.reduceAdd, Nat.reduceLT, Nat.reduceLeDiff, Nat.zero_add, Bool.not_true, Bool.not_false, Bool.not_eq_true, Bool.and_false, Bool.false_and, D.hole.injEq, ite_true, ite_false, if_true, if_false, reduceIte, Bool.false_eq_true, Nat.lt_add_one, reduceCtorEq, false_and, and_false, exists_false, exists_const, ne_eq, not_false_eq_true, true_or, or_true, or_false, false_or]
    exact q _ _ _ _ _ _ _
  · simp (maxSteps := 2000000) only [x_callZ, x_enumS, x_minD, x_maxD, r_powW, r_mulW, x_izipM, x_glst, x_izip, iz_tup, iz_lst, x_lcV, x_par3, x_lz3, x_lstS, x_star, x_izip3, x_sumL, x_tru, x_rg2, x_metP, x_yes, lo_l, so_l, so_t, tr_int, x_clear, ex_plB, pb_causes, pb_clashes, pb_undone, on_book, x_iseq, is_tup, is_lst, x_seq, x_ifS, x_asg, x_par, x_for, x_gname, x_gnil, x_gcons, x_gtup, x_gixP, x_tup, x_lst, x_cons, x_nil, x_dK, x_op2, x_op1, x_opL, x_ret, x_mov, x_var, x_fz, x_c, x_next, x_drop, x_if, x_and, x_or, x_not, x_chain, x_tchain, x_tcmp, x_tval, x_tand, x_tor, x_tnot, x_isi, x_call, x_args0, x_argsV, x_argsL, x_put0, x_putN, x_putS, x_evN, x_evE, x_ev0, x_evC, x_atN, x_atD, x_metN, x_pn, x_ps, x_sl, x_rg1, x_orT, x_lrg2, x_endR, x_endN, x_outT, x_outF, x_out0, x_keyC, x_keyN, y_int, y_bl, y_str, y_non, y_tup, y_lst, y_frl, y_nil, y_cons, ats_nil, ats_cons, onAt_0, onAt_s, on_tape, on_int, on_str, on_bl, on_non, on_tup, on_lst, on_hole, on_frl, true_and, and_true, and_assoc, List.getElem?_cons_zero, List.getElem?_cons_succ, Option.some.injEq, exists_and_left, exists_eq_left', exists_eq_left, exists_eq_right, exists_eq_right', tape_left, tape_spot, tape_cells, set_spot, set_left, r_int, r_mod, r_fdiv, r_lt, r_le, r_gt, r_ge, r_eq, r_ne, r_eqS, r_neS, r_add, r_addL, r_sub, r_mul, r_mulL, r_pow, r_intB, r_abs, r_neg, r_lenL, r_lenT, r_lenF, r_append, r_popAt, r_extend, r_tyL, r_min, fz_fz, fzL_fz, List.all_cons, List.all_nil, Bool.and_true, Bool.true_and, D.tup.injEq, D.int.injEq, D.bl.injEq, D.str.injEq, D.lst.injEq, List.cons.injEq, List.length_cons, List.length_nil, ex_plN, List.set_cons_succ, List.set_cons_zero, decide_eq_true_eq, Nat.reduceAdd, Nat.reduceLT, Nat.reduceLeDiff, Nat.zero_add, Bool.not_true, Bool.not_false, Bool.not_eq_true, Bool.and_false, Bool.false_and, D.hole.injEq, ite_true, ite_false, if_true, if_false, reduceIte, Bool.false_eq_true, Nat.lt_add_one, reduceCtorEq, false_and, and_false, exists_false, exists_const, ne_eq, not_false_eq_true, true_or, or_true, or_false, false_or]
    exact q _ _ _ _ _ _ _
end
end Q

namespace Q
open PySem PySem.Spec PyProof.Rows L2 M Z3
theorem spot_len {k : Nat} {σ : List Int} (h : Spot k σ) : σ.length = k := by
  have := congrArg List.length h
  rw [List.length_map, upto_len] at this
  exact this
theorem spot_val {k : Nat} {σ : List Int} (h : Spot k σ) {i : Int} (hi : i ∈ σ) : i.natAbs ≤ k := by
  have : absI i ∈ upto k := by rw [← h]; exact List.mem_map_of_mem hi
  have := upto_mem this
  rcases absI_cases i with ⟨_, e⟩ | ⟨_, e⟩ <;> omega
theorem flat_spots {k : Nat} {S : List (List Int)} (hk : k ≤ 60) (hS : S.length ≤ 60) (h : ∀ σ ∈ S, Spot k σ) : Flat S := ⟨hS, fun σ hσ => by rw [spot_len (h σ hσ)]; exact hk, fun σ hσ i hi => Nat.le_trans (spot_val (h σ hσ) hi) hk⟩
theorem book_fz {k : Nat} {b : D} (h : Book k b) : Book k (fz b) := by
  obtain ⟨o, o1, o2, o3, cs, fs, us, rfl, h⟩ := h
  refine ⟨false, false, false, false, cs, fs, us, ?_, h⟩
  show D.dK false [(_, .lst false (fzL (cs.map ilD))), (_, .lst false (fzL (fs.map ilD))), (_, .lst false (fzL (us.map .int)))] = _
  rw [fzL_il, fzL_il, fzL_ints]
  rfl
theorem book_k {k : Nat} {b : D} (h : Book k b) : k ≤ 60 := by
  obtain ⟨o, o1, o2, o3, cs, fs, us, rfl, _, _, h, _⟩ := h
  exact h
theorem book_on {k : Nat} {b : D} (h : Book k b) : on b = true := by
  obtain ⟨o, o1, o2, o3, cs, fs, us, rfl, _⟩ := h
  rfl
def rowL (top : Int) : List Int := (List.range 60).map fun (j : Nat) => if 1 + (j : Int) ≤ top then 1 + (j : Int) else 0 - (1 + (j : Int))
theorem row_len {t : Int} : (rowL t).length = 60 := by unfold rowL; rw [List.length_map, List.length_range]
theorem row_val {t i : Int} (h : i ∈ rowL t) : i.natAbs ≤ 60 := by
  unfold rowL at h
  obtain ⟨j, hj, rfl⟩ := List.mem_map.mp h
  rw [List.mem_range] at hj
  split <;> omega
theorem flat_rows {ts : List Int} (h : ts.length ≤ 60) : Flat (ts.map rowL) := ⟨by rw [List.length_map]; exact h, fun σ hσ => by obtain ⟨t, _, rfl⟩ := List.mem_map.mp hσ; rw [row_len]; decide, fun σ hσ i hi => by obtain ⟨t, _, rfl⟩ := List.mem_map.mp hσ; exact row_val hi⟩
section
variable {E : DEnds} {a0 t a4 a5 a6 a7 a8 a9 a10 a11 a12 : D} {S : List (List Int)} {o : Bool} {n m : Nat} {j : Int}
theorem law9 {r : Bool} (h0 : S ≠ []) (hF : Flat S) (hn : ∀ σ ∈ S, σ.length = n) (q : ∀ b3 b7 b8 b9 b10 b11 b12, E.nx [a0, t, .int j, b3, a4, .bl r, .int S.length, b7, b8, b9, b10, b11, b12, .off, .off, .off, .off]) :
    w_law_9 E [a0, t, .int j, .lst o (S.map spotD), a4, .bl r, .int S.length, a7, a8, a9, a10, a11, a12, .off, .off, .off, .off] := by
  have hn60 : n ≤ 60 := by
    cases S with
    | nil => exact absurd rfl h0
    | cons a l =>
      rw [← hn a List.mem_cons_self]
      exact hF.row a List.mem_cons_self
  unfold w_law_9
  simp (maxSteps := 2000000) only [x_callZ, x_enumS, x_minD, x_maxD, r_powW, r_mulW, x_izipM, x_glst, x_izip, iz_tup, iz_lst, x_lcV, x_par3, x_lz3, x_lstS, x_star, x_izip3, x_sumL, x_tru, x_rg2, x_metP, x_yes, lo_l, so_l, so_t, tr_int, x_clear, ex_plB, pb_causes, pb_clashes, pb_undone, on_book, x_iseq, is_tup, is_lst, x_seq, x_ifS, x_asg, x_par, x_for, x_gname, x_gnil, x_gcons, x_gtup, x_gixP, x_tup, x_lst, x_cons, x_nil, x_dK, x_op2, x_op1, x_opL, x_ret, x_mov, x_var, x_fz, x_c, x_next, x_drop, x_if, x_and, x_or, x_not, x_chain, x_tchain, x_tcmp, x_tval, x_tand, x_tor, x_tnot, x_isi, x_call, x_args0, x_argsV, x_argsL, x_put0, x_putN, x_putS, x_evN, x_evE, x_ev0, x_evC, x_atN, x_atD, x_metN, x_pn, x_ps, x_sl, x_rg1, x_orT, x_lrg2, x_endR, x_endN, x_outT, x_outF, x_out0, x_keyC, x_keyN, y_int, y_bl, y_str, y_non, y_tup, y_lst, y_frl, y_nil, y_cons, ats_nil, ats_cons, onAt_0, onAt_s, on_tape, on_int, on_str, on_bl, on_non, on_tup, on_lst, on_hole, on_frl, true_and, and_true, and_assoc, List.getElem?_cons_zero, List.getElem?_cons_succ, Option.some.injEq, exists_and_left, exists_eq_left', exists_eq_left, exists_eq_right, exists_eq_right', tape_left, tape_spot, tape_cells, set_spot, set_left, r_int, r_mod, r_fdiv, r_lt, r_le, r_gt, r_ge, r_eq, r_ne, r_eqS, r_neS, r_add, r_addL, r_sub, r_mul, r_mulL, r_pow, r_intB, r_abs, r_neg, r_lenL, r_lenT, r_lenF, r_append, r_popAt, r_extend, r_tyL, r_min, fz_fz, fzL_fz, List.all_cons, List.all_nil, Bool.and_true, Bool.true_and, D.tup.injEq, D.int.injEq, D.bl.injEq, D.str.injEq, D.lst.injEq, List.cons.injEq, List.length_cons, List.length_nil, ex_plN, List.set_cons_succ, List.set_cons_zero, decide_eq_true_eq, Nat.reduceAdd, Nat.reduceLT, Nat.reduceLeDiff, Nat.zero_add, Bool.not_true, Bool.not_false, Bool.not_eq_true, Bool.and_false, Bool.false_and, D.hole.injEq, ite_true, ite_false, if_true, if_false, reduceIte, Bool.false_eq_true, Nat.lt_add_one, reduceCtorEq, false_and, and_false, exists_false, exists_const, ne_eq, not_false_eq_true, true_or, or_true, or_false, false_or]
  rw [r_list (fzL_spots S)]
  exact law8 h0 hF.len hn hn60 fun c9 c10 c11 => law7 h0 hF hn q
theorem law10 (ht : Tape (m + 1) t) (h0 : S ≠ []) (hF : Flat S) (hn : ∀ σ ∈ S, σ.length = n) (q : ∀ t' b3 b5 b6 b7 b8 b9 b10 b11 b12, Tape m t' → E.nx [a0, t', .int j, b3, a4, b5, b6, b7, b8, b9, b10, b11, b12, .off, .off, .off, .off]) :
    w_law_10 E [a0, t, .int j, .lst o (S.map spotD), a4, a5, a6, a7, a8, a9, a10, a11, a12, .off, .off, .off, .off] := by
  unfold w_law_10
  simp (maxSteps := 2000000) only [x_callZ, x_enumS, x_minD, x_maxD, r_powW, r_mulW, x_izipM, x_glst, x_izip, iz_tup, iz_lst, x_lcV, x_par3, x_lz3, x_lstS, x_star, x_izip3, x_sumL, x_tru, x_rg2, x_metP, x_yes, lo_l, so_l, so_t, tr_int, x_clear, ex_plB, pb_causes, pb_clashes, pb_undone, on_book, x_iseq, is_tup, is_lst, x_seq, x_ifS, x_asg, x_par, x_for, x_gname, x_gnil, x_gcons, x_gtup, x_gixP, x_tup, x_lst, x_cons, x_nil, x_dK, x_op2, x_op1, x_opL, x_ret, x_mov, x_var, x_fz, x_c, x_next, x_drop, x_if, x_and, x_or, x_not, x_chain, x_tchain, x_tcmp, x_tval, x_tand, x_tor, x_tnot, x_isi, x_call, x_args0, x_argsV, x_argsL, x_put0, x_putN, x_putS, x_evN, x_evE, x_ev0, x_evC, x_atN, x_atD, x_metN, x_pn, x_ps, x_sl, x_rg1, x_orT, x_lrg2, x_endR, x_endN, x_outT, x_outF, x_out0, x_keyC, x_keyN, y_int, y_bl, y_str, y_non, y_tup, y_lst, y_frl, y_nil, y_cons, ats_nil, ats_cons, onAt_0, onAt_s, on_tape, on_int, on_str, on_bl, on_non, on_tup, on_lst, on_hole, on_frl, true_and, and_true, and_assoc, List.getElem?_cons_zero, List.getElem?_cons_succ, Option.some.injEq, exists_and_left, exists_eq_left', exists_eq_left, exists_eq_right, exists_eq_right', tape_left, tape_spot, tape_cells, set_spot, set_left, r_int, r_mod, r_fdiv, r_lt, r_le, r_gt, r_ge, r_eq, r_ne, r_eqS, r_neS, r_add, r_addL, r_sub, r_mul, r_mulL, r_pow, r_intB, r_abs, r_neg, r_lenL, r_lenT, r_lenF, r_append, r_popAt, r_extend, r_tyL, r_min, fz_fz, fzL_fz, List.all_cons, List.all_nil, Bool.and_true, Bool.true_and, D.tup.injEq, D.int.injEq, D.bl.injEq, D.str.injEq, D.lst.injEq, List.cons.injEq, List.length_cons, List.length_nil, ex_plN, List.set_cons_succ, List.set_cons_zero, decide_eq_true_eq, Nat.reduceAdd, Nat.reduceLT, Nat.reduceLeDiff, Nat.zero_add, Bool.not_true, Bool.not_false, Bool.not_eq_true, Bool.and_false, Bool.false_and, D.hole.injEq, ite_true, ite_false, if_true, if_false, reduceIte, Bool.false_eq_true, Nat.lt_add_one, reduceCtorEq, false_and, and_false, exists_false, exists_const, ne_eq, not_false_eq_true, true_or, or_true, or_false, false_or, ht.on]
  intro v
  rw [fzL_spots]
  refine ⟨t, false, S.map spotD, m, rfl, ht, fun b t1 _ ht1 => ?_⟩
  simp (maxSteps := 2000000) only [x_callZ, x_enumS, x_minD, x_maxD, r_powW, r_mulW, x_izipM, x_glst, x_izip, iz_tup, iz_lst, x_lcV, x_par3, x_lz3, x_lstS, x_star, x_izip3, x_sumL, x_tru, x_rg2, x_metP, x_yes, lo_l, so_l, so_t, tr_int, x_clear, ex_plB, pb_causes, pb_clashes, pb_undone, on_book, x_iseq, is_tup, is_lst, x_seq, x_ifS, x_asg, x_par, x_for, x_gname, x_gnil, x_gcons, x_gtup, x_gixP, x_tup, x_lst, x_cons, x_nil, x_dK, x_op2, x_op1, x_opL, x_ret, x_mov, x_var, x_fz, x_c, x_next, x_drop, x_if, x_and, x_or, x_not, x_chain, x_tchain, x_tcmp, x_tval, x_tand, x_tor, x_tnot, x_isi, x_call, x_args0, x_argsV, x_argsL, x_put0, x_putN, x_putS, x_evN, x_evE, x_ev0, x_evC, x_atN, x_atD, x_metN, x_pn, x_ps, x_sl, x_rg1, x_orT, x_lrg2, x_endR, x_endN, x_outT, x_outF, x_out0, x_keyC, x_keyN, y_int, y_bl, y_str, y_non, y_tup, y_lst, y_frl, y_nil, y_cons, ats_nil, ats_cons, onAt_0, onAt_s, on_tape, on_int, on_str, on_bl, on_non, on_tup, on_lst, on_hole, on_frl, true_and, and_true, and_assoc, List.getElem?_cons_zero, List.getElem?_cons_succ, Option.some.injEq, exists_and_left, exists_eq_left', exists_eq_left, exists_eq_right, exists_eq_right', tape_left, tape_spot, tape_cells, set_spot, set_left, r_int, r_mod, r_fdiv, r_lt, r_le, r_gt, r_ge, r_eq, r_ne, r_eqS, r_neS, r_add, r_addL, r_sub, r_mul, r_mulL, r_pow, r_intB, r_abs, r_neg, r_lenL, r_lenT, r_lenF, r_append, r_popAt, r_extend, r_tyL, r_min, fz_fz, fzL_fz, List.all_cons, List.all_nil, Bool.and_true, Bool.true_and, D.tup.injEq, D.int.injEq, D.bl.injEq, D.str.injEq, D.lst.injEq, List.cons.injEq, List.length_cons, List.length_nil, ex_plN, List.set_cons_succ, List.set_cons_zero, decide_eq_true_eq, Nat.reduceAdd, Nat.reduceLT, Nat.reduceLeDiff, Nat.zero_add, Bool.not_true, Bool.not_false, Bool.not_eq_true, Bool.and_false, Bool.false_and, D.hole.injEq, ite_true, ite_false, if_true, if_false, reduceIte, Bool.false_eq_true, Nat.lt_add_one, reduceCtorEq, false_and, and_false, exists_false, exists_const, ne_eq, not_false_eq_true, true_or, or_true, or_false, false_or, ht1.on, List.length_map]
  exact law9 h0 hF hn fun b3 b7 b8 b9 b10 b11 b12 => q _ _ _ _ _ _ _ _ _ _ ht1
theorem law11 (ht : Tape (m + 100) t) (h0 : S ≠ []) (hF : Flat S) (hn : ∀ σ ∈ S, σ.length = n) (q : ∀ t' b3 b4 b5 b6 b7 b8 b9 b10 b11 b12, Tape m t' → E.nx [a0, t', .int j, b3, b4, b5, b6, b7, b8, b9, b10, b11, b12, .off, .off, .off, .off]) :
    w_law_11 E [a0, t, .int j, .lst o (S.map spotD), a4, a5, a6, a7, a8, a9, a10, a11, a12, .off, .off, .off, .off] := by
  unfold w_law_11
  simp (maxSteps := 2000000) only [x_callZ, x_enumS, x_minD, x_maxD, r_powW, r_mulW, x_izipM, x_glst, x_izip, iz_tup, iz_lst, x_lcV, x_par3, x_lz3, x_lstS, x_star, x_izip3, x_sumL, x_tru, x_rg2, x_metP, x_yes, lo_l, so_l, so_t, tr_int, x_clear, ex_plB, pb_causes, pb_clashes, pb_undone, on_book, x_iseq, is_tup, is_lst, x_seq, x_ifS, x_asg, x_par, x_for, x_gname, x_gnil, x_gcons, x_gtup, x_gixP, x_tup, x_lst, x_cons, x_nil, x_dK, x_op2, x_op1, x_opL, x_ret, x_mov, x_var, x_fz, x_c, x_next, x_drop, x_if, x_and, x_or, x_not, x_chain, x_tchain, x_tcmp, x_tval, x_tand, x_tor, x_tnot, x_isi, x_call, x_args0, x_argsV, x_argsL, x_put0, x_putN, x_putS, x_evN, x_evE, x_ev0, x_evC, x_atN, x_atD, x_metN, x_pn, x_ps, x_sl, x_rg1, x_orT, x_lrg2, x_endR, x_endN, x_outT, x_outF, x_out0, x_keyC, x_keyN, y_int, y_bl, y_str, y_non, y_tup, y_lst, y_frl, y_nil, y_cons, ats_nil, ats_cons, onAt_0, onAt_s, on_tape, on_int, on_str, on_bl, on_non, on_tup, on_lst, on_hole, on_frl, true_and, and_true, and_assoc, List.getElem?_cons_zero, List.getElem?_cons_succ, Option.some.injEq, exists_and_left, exists_eq_left', exists_eq_left, exists_eq_right, exists_eq_right', tape_left, tape_spot, tape_cells, set_spot, set_left, r_int, r_mod, r_fdiv, r_lt, r_le, r_gt, r_ge, r_eq, r_ne, r_eqS, r_neS, r_add, r_addL, r_sub, r_mul, r_mulL, r_pow, r_intB, r_abs, r_neg, r_lenL, r_lenT, r_lenF, r_append, r_popAt, r_extend, r_tyL, r_min, fz_fz, fzL_fz, List.all_cons, List.all_nil, Bool.and_true, Bool.true_and, D.tup.injEq, D.int.injEq, D.bl.injEq, D.str.injEq, D.lst.injEq, List.cons.injEq, List.length_cons, List.length_nil, ex_plN, List.set_cons_succ, List.set_cons_zero, decide_eq_true_eq, Nat.reduceAdd, Nat.reduceLT, Nat.reduceLeDiff, Nat.zero_add, Bool.not_true, Bool.not_false, Bool.not_eq_true, Bool.and_false, Bool.false_and, D.hole.injEq, ite_true, ite_false, if_true, if_false, reduceIte, Bool.false_eq_true, Nat.lt_add_one, reduceCtorEq, false_and, and_false, exists_false, exists_const, ne_eq, not_false_eq_true, true_or, or_true, or_false, false_or, ht.on]
  have stay : ∀ t', Tape (m + 1) t' → w_law_10 E [a0, t', .int j, .lst o (S.map spotD), a4, a5, a6, a7, a8, a9, a10, a11, a12, .off, .off, .off, .off] := fun t' ht' => law10 ht' h0 hF hn fun t1 b3 b5 b6 b7 b8 b9 b10 b11 b12 h => q t1 b3 _ b5 b6 b7 b8 b9 b10 b11 b12 h
  split
  · intro v
    refine to_draw (n := m + 99) ht (by omega) (by omega) fun r t1 hr0 hr1 ht1 => ?_
    simp (maxSteps := 2000000) only [x_callZ, x_enumS, x_minD, x_maxD, r_powW, r_mulW, x_izipM, x_glst, x_izip, iz_tup, iz_lst, x_lcV, x_par3, x_lz3, x_lstS, x_star, x_izip3, x_sumL, x_tru, x_rg2, x_metP, x_yes, lo_l, so_l, so_t, tr_int, x_clear, ex_plB, pb_causes, pb_clashes, pb_undone, on_book, x_iseq, is_tup, is_lst, x_seq, x_ifS, x_asg, x_par, x_for, x_gname, x_gnil, x_gcons, x_gtup, x_gixP, x_tup, x_lst, x_cons, x_nil, x_dK, x_op2, x_op1, x_opL, x_ret, x_mov, x_var, x_fz, x_c, x_next, x_drop, x_if, x_and, x_or, x_not, x_chain, x_tchain, x_tcmp, x_tval, x_tand, x_tor, x_tnot, x_isi, x_call, x_args0, x_argsV, x_argsL, x_put0, x_putN, x_putS, x_evN, x_evE, x_ev0, x_evC, x_atN, x_atD, x_metN, x_pn, x_ps, x_sl, x_rg1, x_orT, x_lrg2, x_endR, x_endN, x_outT, x_outF, x_out0, x_keyC, x_keyN, y_int, y_bl, y_str, y_non, y_tup, y_lst, y_frl, y_nil, y_cons, ats_nil, ats_cons, onAt_0, onAt_s, on_tape, on_int, on_str, on_bl, on_non, on_tup, on_lst, on_hole, on_frl, true_and, and_true, and_assoc, List.getElem?_cons_zero, List.getElem?_cons_succ, Option.some.injEq, exists_and_left, exists_eq_left', exists_eq_left, exists_eq_right, exists_eq_right', tape_left, tape_spot, tape_cells, set_spot, set_left, r_int, r_mod, r_fdiv, r_lt, r_le, r_gt, r_ge, r_eq, r_ne, r_eqS, r_neS, r_add, r_addL, r_sub, r_mul, r_mulL, r_pow, r_intB, r_abs, r_neg, r_lenL, r_lenT, r_lenF, r_append, r_popAt, r_extend, r_tyL, r_min, fz_fz, fzL_fz, List.all_cons, List.all_nil, Bool.and_true, Bool.true_and, D.tup.injEq, D.int.injEq, D.bl.injEq, D.str.injEq, D.lst.injEq, List.cons.injEq, List.length_cons, List.length_nil, ex_plN, List.set_cons_succ, List.set_cons_zero, decide_eq_true_eq, Nat.reduceAdd, Nat.reduceLT, Nat.reduceLeDiff, Nat.zero_add, Bool.not_true, Bool.not_false, Bool.not_eq_true, Bool.and_false, Bool.false_and, D.hole.injEq, ite_true, ite_false, if_true, if_false, reduceIte, Bool.false_eq_true, Nat.lt_add_one, reduceCtorEq, false_and, and_false, exists_false, exists_const, ne_eq, not_false_eq_true, true_or, or_true, or_false, false_or, ht1.on]
    split
    · refine ⟨by decide, by decide, sizeOk (by rw [rangeD_len]; decide), by decide, ?_⟩
      refine lc_from (fun acc s => ∃ t' ts, s = [a0, t', .int j, .lst o (S.map spotD), a4, a5, a6, a7, a8, .off, a10, a11, a12, .off, .off, .off, .off] ∧ acc = ts.map D.int ∧ Tape (m + 99 - acc.length) t') ⟨t1, [], rfl, rfl, ht1⟩ ?_ ?_
      · rintro i x hx acc s hi ⟨t', ts, rfl, rfl, ht'⟩ K hK
        rw [List.length_map] at hi ht'
        obtain ⟨hi2, rfl⟩ := rangeD_at hx
        have hi3 : i < 60 := hi2
        simp (maxSteps := 2000000) only [x_callZ, x_enumS, x_minD, x_maxD, r_powW, r_mulW, x_izipM, x_glst, x_izip, iz_tup, iz_lst, x_lcV, x_par3, x_lz3, x_lstS, x_star, x_izip3, x_sumL, x_tru, x_rg2, x_metP, x_yes, lo_l, so_l, so_t, tr_int, x_clear, ex_plB, pb_causes, pb_clashes, pb_undone, on_book, x_iseq, is_tup, is_lst, x_seq, x_ifS, x_asg, x_par, x_for, x_gname, x_gnil, x_gcons, x_gtup, x_gixP, x_tup, x_lst, x_cons, x_nil, x_dK, x_op2, x_op1, x_opL, x_ret, x_mov, x_var, x_fz, x_c, x_next, x_drop, x_if, x_and, x_or, x_not, x_chain, x_tchain, x_tcmp, x_tval, x_tand, x_tor, x_tnot, x_isi, x_call, x_args0, x_argsV, x_argsL, x_put0, x_putN, x_putS, x_evN, x_evE, x_ev0, x_evC, x_atN, x_atD, x_metN, x_pn, x_ps, x_sl, x_rg1, x_orT, x_lrg2, x_endR, x_endN, x_outT, x_outF, x_out0, x_keyC, x_keyN, y_int, y_bl, y_str, y_non, y_tup, y_lst, y_frl, y_nil, y_cons, ats_nil, ats_cons, onAt_0, onAt_s, on_tape, on_int, on_str, on_bl, on_non, on_tup, on_lst, on_hole, on_frl, true_and, and_true, and_assoc, List.getElem?_cons_zero, List.getElem?_cons_succ, Option.some.injEq, exists_and_left, exists_eq_left', exists_eq_left, exists_eq_right, exists_eq_right', tape_left, tape_spot, tape_cells, set_spot, set_left, r_int, r_mod, r_fdiv, r_lt, r_le, r_gt, r_ge, r_eq, r_ne, r_eqS, r_neS, r_add, r_addL, r_sub, r_mul, r_mulL, r_pow, r_intB, r_abs, r_neg, r_lenL, r_lenT, r_lenF, r_append, r_popAt, r_extend, r_tyL, r_min, fz_fz, fzL_fz, List.all_cons, List.all_nil, Bool.and_true, Bool.true_and, D.tup.injEq, D.int.injEq, D.bl.injEq, D.str.injEq, D.lst.injEq, List.cons.injEq, List.length_cons, List.length_nil, ex_plN, List.set_cons_succ, List.set_cons_zero, decide_eq_true_eq, Nat.reduceAdd, Nat.reduceLT, Nat.reduceLeDiff, Nat.zero_add, Bool.not_true, Bool.not_false, Bool.not_eq_true, Bool.and_false, Bool.false_and, D.hole.injEq, ite_true, ite_false, if_true, if_false, reduceIte, Bool.false_eq_true, Nat.lt_add_one, reduceCtorEq, false_and, and_false, exists_false, exists_const, ne_eq, not_false_eq_true, true_or, or_true, or_false, false_or, ht'.on]
        intro v
        refine to_draw (n := m + 99 - (i + 1)) (ht'.mono (by omega)) (by omega) (by omega) fun top t2 _ _ ht2 => ?_
        simp (maxSteps := 2000000) only [x_callZ, x_enumS, x_minD, x_maxD, r_powW, r_mulW, x_izipM, x_glst, x_izip, iz_tup, iz_lst, x_lcV, x_par3, x_lz3, x_lstS, x_star, x_izip3, x_sumL, x_tru, x_rg2, x_metP, x_yes, lo_l, so_l, so_t, tr_int, x_clear, ex_plB, pb_causes, pb_clashes, pb_undone, on_book, x_iseq, is_tup, is_lst, x_seq, x_ifS, x_asg, x_par, x_for, x_gname, x_gnil, x_gcons, x_gtup, x_gixP, x_tup, x_lst, x_cons, x_nil, x_dK, x_op2, x_op1, x_opL, x_ret, x_mov, x_var, x_fz, x_c, x_next, x_drop, x_if, x_and, x_or, x_not, x_chain, x_tchain, x_tcmp, x_tval, x_tand, x_tor, x_tnot, x_isi, x_call, x_args0, x_argsV, x_argsL, x_put0, x_putN, x_putS, x_evN, x_evE, x_ev0, x_evC, x_atN, x_atD, x_metN, x_pn, x_ps, x_sl, x_rg1, x_orT, x_lrg2, x_endR, x_endN, x_outT, x_outF, x_out0, x_keyC, x_keyN, y_int, y_bl, y_str, y_non, y_tup, y_lst, y_frl, y_nil, y_cons, ats_nil, ats_cons, onAt_0, onAt_s, on_tape, on_int, on_str, on_bl, on_non, on_tup, on_lst, on_hole, on_frl, true_and, and_true, and_assoc, List.getElem?_cons_zero, List.getElem?_cons_succ, Option.some.injEq, exists_and_left, exists_eq_left', exists_eq_left, exists_eq_right, exists_eq_right', tape_left, tape_spot, tape_cells, set_spot, set_left, r_int, r_mod, r_fdiv, r_lt, r_le, r_gt, r_ge, r_eq, r_ne, r_eqS, r_neS, r_add, r_addL, r_sub, r_mul, r_mulL, r_pow, r_intB, r_abs, r_neg, r_lenL, r_lenT, r_lenF, r_append, r_popAt, r_extend, r_tyL, r_min, fz_fz, fzL_fz, List.all_cons, List.all_nil, Bool.and_true, Bool.true_and, D.tup.injEq, D.int.injEq, D.bl.injEq, D.str.injEq, D.lst.injEq, List.cons.injEq, List.length_cons, List.length_nil, ex_plN, List.set_cons_succ, List.set_cons_zero, decide_eq_true_eq, Nat.reduceAdd, Nat.reduceLT, Nat.reduceLeDiff, Nat.zero_add, Bool.not_true, Bool.not_false, Bool.not_eq_true, Bool.and_false, Bool.false_and, D.hole.injEq, ite_true, ite_false, if_true, if_false, reduceIte, Bool.false_eq_true, Nat.lt_add_one, reduceCtorEq, false_and, and_false, exists_false, exists_const, ne_eq, not_false_eq_true, true_or, or_true, or_false, false_or, ht2.on]
        refine hK _ _ ⟨t2, ts ++ [top], rfl, by rw [List.map_append]; rfl, by rw [List.length_append, List.length_map, hi]; exact ht2⟩
      · rintro acc s hl ⟨t', ts, rfl, rfl, ht'⟩
        rw [rangeD_len, List.length_map] at hl
        rw [List.length_map] at ht'
        have hts : ts.length = 60 := hl
        simp only [restore, unset, x_callZ, x_enumS, x_minD, x_maxD, r_powW, r_mulW, x_izipM, x_glst, x_izip, iz_tup, iz_lst, x_lcV, x_par3, x_lz3, x_lstS, x_star, x_izip3, x_sumL, x_tru, x_rg2, x_metP, x_yes, lo_l, so_l, so_t, tr_int, x_clear, ex_plB, pb_causes, pb_clashes, pb_undone, on_book, x_iseq, is_tup, is_lst, x_seq, x_ifS, x_asg, x_par, x_for, x_gname, x_gnil, x_gcons, x_gtup, x_gixP, x_tup, x_lst, x_cons, x_nil, x_dK, x_op2, x_op1, x_opL, x_ret, x_mov, x_var, x_fz, x_c, x_next, x_drop, x_if, x_and, x_or, x_not, x_chain, x_tchain, x_tcmp, x_tval, x_tand, x_tor, x_tnot, x_isi, x_call, x_args0, x_argsV, x_argsL, x_put0, x_putN, x_putS, x_evN, x_evE, x_ev0, x_evC, x_atN, x_atD, x_metN, x_pn, x_ps, x_sl, x_rg1, x_orT, x_lrg2, x_endR, x_endN, x_outT, x_outF, x_out0, x_keyC, x_keyN, y_int, y_bl, y_str, y_non, y_tup, y_lst, y_frl, y_nil, y_cons, ats_nil, ats_cons, onAt_0, onAt_s, on_tape, on_int, on_str, on_bl, on_non, on_tup, on_lst, on_hole, on_frl, true_and, and_true, and_assoc, List.getElem?_cons_zero, List.getElem?_cons_succ, Option.some.injEq, exists_and_left, exists_eq_left', exists_eq_left, exists_eq_right, exists_eq_right', tape_left, tape_spot, tape_cells, set_spot, set_left, r_int, r_mod, r_fdiv, r_lt, r_le, r_gt, r_ge, r_eq, r_ne, r_eqS, r_neS, r_add, r_addL, r_sub, r_mul, r_mulL, r_pow, r_intB, r_abs, r_neg, r_lenL, r_lenT, r_lenF, r_append, r_popAt, r_extend, r_tyL, r_min, fz_fz, fzL_fz, List.all_cons, List.all_nil, Bool.and_true, Bool.true_and, D.tup.injEq, D.int.injEq, D.bl.injEq, D.str.injEq, D.lst.injEq, List.cons.injEq, List.length_cons, List.length_nil, ex_plN, List.set_cons_succ, List.set_cons_zero, decide_eq_true_eq, Nat.reduceAdd, Nat.reduceLT, Nat.reduceLeDiff, Nat.zero_add, Bool.not_true, Bool.not_false, Bool.not_eq_true, Bool.and_false, Bool.false_and, D.hole.injEq, ite_true, ite_false, if_true, if_false, reduceIte, Bool.false_eq_true, Nat.lt_add_one, reduceCtorEq, false_and, and_false, exists_false, exists_const, ne_eq, not_false_eq_true, true_or, or_true, or_false, false_or, List.getD_eq_getElem?_getD, Option.getD_some, ht'.on, fzL_ints, List.length_map]
        refine ⟨sizeOk (by omega), by decide, ?_⟩
        refine lc_over _ _ (fun top => spotD (rowL top)) (fun s => s = [a0, t', .int j, .lst o (S.map spotD), .lst false (ts.map .int), a5, a6, a7, a8, a9, a10, a11, a12, .off, .off, .off, .off]) rfl ?_ ?_
        · rintro i top hx s rfl K hK
          simp (maxSteps := 2000000) only [x_callZ, x_enumS, x_minD, x_maxD, r_powW, r_mulW, x_izipM, x_glst, x_izip, iz_tup, iz_lst, x_lcV, x_par3, x_lz3, x_lstS, x_star, x_izip3, x_sumL, x_tru, x_rg2, x_metP, x_yes, lo_l, so_l, so_t, tr_int, x_clear, ex_plB, pb_causes, pb_clashes, pb_undone, on_book, x_iseq, is_tup, is_lst, x_seq, x_ifS, x_asg, x_par, x_for, x_gname, x_gnil, x_gcons, x_gtup, x_gixP, x_tup, x_lst, x_cons, x_nil, x_dK, x_op2, x_op1, x_opL, x_ret, x_mov, x_var, x_fz, x_c, x_next, x_drop, x_if, x_and, x_or, x_not, x_chain, x_tchain, x_tcmp, x_tval, x_tand, x_tor, x_tnot, x_isi, x_call, x_args0, x_argsV, x_argsL, x_put0, x_putN, x_putS, x_evN, x_evE, x_ev0, x_evC, x_atN, x_atD, x_metN, x_pn, x_ps, x_sl, x_rg1, x_orT, x_lrg2, x_endR, x_endN, x_outT, x_outF, x_out0, x_keyC, x_keyN, y_int, y_bl, y_str, y_non, y_tup, y_lst, y_frl, y_nil, y_cons, ats_nil, ats_cons, onAt_0, onAt_s, on_tape, on_int, on_str, on_bl, on_non, on_tup, on_lst, on_hole, on_frl, true_and, and_true, and_assoc, List.getElem?_cons_zero, List.getElem?_cons_succ, Option.some.injEq, exists_and_left, exists_eq_left', exists_eq_left, exists_eq_right, exists_eq_right', tape_left, tape_spot, tape_cells, set_spot, set_left, r_int, r_mod, r_fdiv, r_lt, r_le, r_gt, r_ge, r_eq, r_ne, r_eqS, r_neS, r_add, r_addL, r_sub, r_mul, r_mulL, r_pow, r_intB, r_abs, r_neg, r_lenL, r_lenT, r_lenF, r_append, r_popAt, r_extend, r_tyL, r_min, fz_fz, fzL_fz, List.all_cons, List.all_nil, Bool.and_true, Bool.true_and, D.tup.injEq, D.int.injEq, D.bl.injEq, D.str.injEq, D.lst.injEq, List.cons.injEq, List.length_cons, List.length_nil, ex_plN, List.set_cons_succ, List.set_cons_zero, decide_eq_true_eq, Nat.reduceAdd, Nat.reduceLT, Nat.reduceLeDiff, Nat.zero_add, Bool.not_true, Bool.not_false, Bool.not_eq_true, Bool.and_false, Bool.false_and, D.hole.injEq, ite_true, ite_false, if_true, if_false, reduceIte, Bool.false_eq_true, Nat.lt_add_one, reduceCtorEq, false_and, and_false, exists_false, exists_const, ne_eq, not_false_eq_true, true_or, or_true, or_false, false_or]
          refine ⟨by decide, by decide, by decide, by decide, sizeOk (by rw [rangeD_len]; decide), by decide, ?_⟩
          refine lc_over (List.range 60) (fun (j : Nat) => D.int (1 + (j : Int))) (fun (j : Nat) => D.int (if 1 + (j : Int) ≤ top then 1 + (j : Int) else 0 - (1 + (j : Int)))) (fun s => s = [a0, t', .int j, .lst o (S.map spotD), .lst false (ts.map .int), a5, a6, a7, a8, a9, a10, a11, a12, .int top, .off, .off, .off]) rfl ?_ ?_
          · rintro i2 c hx2 s rfl K2 hK2
            have hK2 := hK2 [a0, t', .int j, .lst o (S.map spotD), .lst false (ts.map .int), a5, a6, a7, a8, a9, a10, a11, a12, .int top, .off, .int (1 + (c : Int)), .off] rfl
            simp (maxSteps := 2000000) only [x_callZ, x_enumS, x_minD, x_maxD, r_powW, r_mulW, x_izipM, x_glst, x_izip, iz_tup, iz_lst, x_lcV, x_par3, x_lz3, x_lstS, x_star, x_izip3, x_sumL, x_tru, x_rg2, x_metP, x_yes, lo_l, so_l, so_t, tr_int, x_clear, ex_plB, pb_causes, pb_clashes, pb_undone, on_book, x_iseq, is_tup, is_lst, x_seq, x_ifS, x_asg, x_par, x_for, x_gname, x_gnil, x_gcons, x_gtup, x_gixP, x_tup, x_lst, x_cons, x_nil, x_dK, x_op2, x_op1, x_opL, x_ret, x_mov, x_var, x_fz, x_c, x_next, x_drop, x_if, x_and, x_or, x_not, x_chain, x_tchain, x_tcmp, x_tval, x_tand, x_tor, x_tnot, x_isi, x_call, x_args0, x_argsV, x_argsL, x_put0, x_putN, x_putS, x_evN, x_evE, x_ev0, x_evC, x_atN, x_atD, x_metN, x_pn, x_ps, x_sl, x_rg1, x_orT, x_lrg2, x_endR, x_endN, x_outT, x_outF, x_out0, x_keyC, x_keyN, y_int, y_bl, y_str, y_non, y_tup, y_lst, y_frl, y_nil, y_cons, ats_nil, ats_cons, onAt_0, onAt_s, on_tape, on_int, on_str, on_bl, on_non, on_tup, on_lst, on_hole, on_frl, true_and, and_true, and_assoc, List.getElem?_cons_zero, List.getElem?_cons_succ, Option.some.injEq, exists_and_left, exists_eq_left', exists_eq_left, exists_eq_right, exists_eq_right', tape_left, tape_spot, tape_cells, set_spot, set_left, r_int, r_mod, r_fdiv, r_lt, r_le, r_gt, r_ge, r_eq, r_ne, r_eqS, r_neS, r_add, r_addL, r_sub, r_mul, r_mulL, r_pow, r_intB, r_abs, r_neg, r_lenL, r_lenT, r_lenF, r_append, r_popAt, r_extend, r_tyL, r_min, fz_fz, fzL_fz, List.all_cons, List.all_nil, Bool.and_true, Bool.true_and, D.tup.injEq, D.int.injEq, D.bl.injEq, D.str.injEq, D.lst.injEq, List.cons.injEq, List.length_cons, List.length_nil, ex_plN, List.set_cons_succ, List.set_cons_zero, decide_eq_true_eq, Nat.reduceAdd, Nat.reduceLT, Nat.reduceLeDiff, Nat.zero_add, Bool.not_true, Bool.not_false, Bool.not_eq_true, Bool.and_false, Bool.false_and, D.hole.injEq, ite_true, ite_false, if_true, if_false, reduceIte, Bool.false_eq_true, Nat.lt_add_one, reduceCtorEq, false_and, and_false, exists_false, exists_const, ne_eq, not_false_eq_true, true_or, or_true, or_false, false_or]
            split <;> rename_i hh
            · rw [if_pos hh] at hK2
              exact hK2
            · rw [if_neg hh] at hK2
              exact hK2
          · rintro s rfl
            have e : ((List.range 60).map fun (j : Nat) => D.int (if 1 + (j : Int) ≤ top then 1 + (j : Int) else 0 - (1 + (j : Int)))) = (rowL top).map .int := by
              unfold rowL
              rw [List.map_map]
              rfl
            rw [e, r_tuple (fzL_ints _)]
            simp only [restore, unset, x_callZ, x_enumS, x_minD, x_maxD, r_powW, r_mulW, x_izipM, x_glst, x_izip, iz_tup, iz_lst, x_lcV, x_par3, x_lz3, x_lstS, x_star, x_izip3, x_sumL, x_tru, x_rg2, x_metP, x_yes, lo_l, so_l, so_t, tr_int, x_clear, ex_plB, pb_causes, pb_clashes, pb_undone, on_book, x_iseq, is_tup, is_lst, x_seq, x_ifS, x_asg, x_par, x_for, x_gname, x_gnil, x_gcons, x_gtup, x_gixP, x_tup, x_lst, x_cons, x_nil, x_dK, x_op2, x_op1, x_opL, x_ret, x_mov, x_var, x_fz, x_c, x_next, x_drop, x_if, x_and, x_or, x_not, x_chain, x_tchain, x_tcmp, x_tval, x_tand, x_tor, x_tnot, x_isi, x_call, x_args0, x_argsV, x_argsL, x_put0, x_putN, x_putS, x_evN, x_evE, x_ev0, x_evC, x_atN, x_atD, x_metN, x_pn, x_ps, x_sl, x_rg1, x_orT, x_lrg2, x_endR, x_endN, x_outT, x_outF, x_out0, x_keyC, x_keyN, y_int, y_bl, y_str, y_non, y_tup, y_lst, y_frl, y_nil, y_cons, ats_nil, ats_cons, onAt_0, onAt_s, on_tape, on_int, on_str, on_bl, on_non, on_tup, on_lst, on_hole, on_frl, true_and, and_true, and_assoc, List.getElem?_cons_zero, List.getElem?_cons_succ, Option.some.injEq, exists_and_left, exists_eq_left', exists_eq_left, exists_eq_right, exists_eq_right', tape_left, tape_spot, tape_cells, set_spot, set_left, r_int, r_mod, r_fdiv, r_lt, r_le, r_gt, r_ge, r_eq, r_ne, r_eqS, r_neS, r_add, r_addL, r_sub, r_mul, r_mulL, r_pow, r_intB, r_abs, r_neg, r_lenL, r_lenT, r_lenF, r_append, r_popAt, r_extend, r_tyL, r_min, fz_fz, fzL_fz, List.all_cons, List.all_nil, Bool.and_true, Bool.true_and, D.tup.injEq, D.int.injEq, D.bl.injEq, D.str.injEq, D.lst.injEq, List.cons.injEq, List.length_cons, List.length_nil, ex_plN, List.set_cons_succ, List.set_cons_zero, decide_eq_true_eq, Nat.reduceAdd, Nat.reduceLT, Nat.reduceLeDiff, Nat.zero_add, Bool.not_true, Bool.not_false, Bool.not_eq_true, Bool.and_false, Bool.false_and, D.hole.injEq, ite_true, ite_false, if_true, if_false, reduceIte, Bool.false_eq_true, Nat.lt_add_one, reduceCtorEq, false_and, and_false, exists_false, exists_const, ne_eq, not_false_eq_true, true_or, or_true, or_false, false_or, List.getD_eq_getElem?_getD, Option.getD_some]
            exact hK _ rfl
        · rintro s rfl
          simp only [restore, unset, x_callZ, x_enumS, x_minD, x_maxD, r_powW, r_mulW, x_izipM, x_glst, x_izip, iz_tup, iz_lst, x_lcV, x_par3, x_lz3, x_lstS, x_star, x_izip3, x_sumL, x_tru, x_rg2, x_metP, x_yes, lo_l, so_l, so_t, tr_int, x_clear, ex_plB, pb_causes, pb_clashes, pb_undone, on_book, x_iseq, is_tup, is_lst, x_seq, x_ifS, x_asg, x_par, x_for, x_gname, x_gnil, x_gcons, x_gtup, x_gixP, x_tup, x_lst, x_cons, x_nil, x_dK, x_op2, x_op1, x_opL, x_ret, x_mov, x_var, x_fz, x_c, x_next, x_drop, x_if, x_and, x_or, x_not, x_chain, x_tchain, x_tcmp, x_tval, x_tand, x_tor, x_tnot, x_isi, x_call, x_args0, x_argsV, x_argsL, x_put0, x_putN, x_putS, x_evN, x_evE, x_ev0, x_evC, x_atN, x_atD, x_metN, x_pn, x_ps, x_sl, x_rg1, x_orT, x_lrg2, x_endR, x_endN, x_outT, x_outF, x_out0, x_keyC, x_keyN, y_int, y_bl, y_str, y_non, y_tup, y_lst, y_frl, y_nil, y_cons, ats_nil, ats_cons, onAt_0, onAt_s, on_tape, on_int, on_str, on_bl, on_non, on_tup, on_lst, on_hole, on_frl, true_and, and_true, and_assoc, List.getElem?_cons_zero, List.getElem?_cons_succ, Option.some.injEq, exists_and_left, exists_eq_left', exists_eq_left, exists_eq_right, exists_eq_right', tape_left, tape_spot, tape_cells, set_spot, set_left, r_int, r_mod, r_fdiv, r_lt, r_le, r_gt, r_ge, r_eq, r_ne, r_eqS, r_neS, r_add, r_addL, r_sub, r_mul, r_mulL, r_pow, r_intB, r_abs, r_neg, r_lenL, r_lenT, r_lenF, r_append, r_popAt, r_extend, r_tyL, r_min, fz_fz, fzL_fz, List.all_cons, List.all_nil, Bool.and_true, Bool.true_and, D.tup.injEq, D.int.injEq, D.bl.injEq, D.str.injEq, D.lst.injEq, List.cons.injEq, List.length_cons, List.length_nil, ex_plN, List.set_cons_succ, List.set_cons_zero, decide_eq_true_eq, Nat.reduceAdd, Nat.reduceLT, Nat.reduceLeDiff, Nat.zero_add, Bool.not_true, Bool.not_false, Bool.not_eq_true, Bool.and_false, Bool.false_and, D.hole.injEq, ite_true, ite_false, if_true, if_false, reduceIte, Bool.false_eq_true, Nat.lt_add_one, reduceCtorEq, false_and, and_false, exists_false, exists_const, ne_eq, not_false_eq_true, true_or, or_true, or_false, false_or, List.getD_eq_getElem?_getD, Option.getD_some]
          have e : (ts.map fun top => spotD (rowL top)) = (ts.map rowL).map spotD := by rw [List.map_map]; rfl
          rw [e]
          exact law10 (n := 60) (ht'.mono (by omega)) (by simp; intro h; rw [h] at hts; simp at hts) (flat_rows (by omega)) (fun σ hσ => by obtain ⟨t, _, rfl⟩ := List.mem_map.mp hσ; exact row_len) fun t1 b3 b5 b6 b7 b8 b9 b10 b11 b12 h => q t1 b3 _ b5 b6 b7 b8 b9 b10 b11 b12 h
    · exact stay t1 (ht1.mono (by omega))
  · exact stay t (ht.mono (by omega))
end
theorem wp_law : ∀ ds R, ds.length = 1 → S_law ds R → w_law (endsB [false] R) (startD 1 17 ds) := by
  rintro ds R hl ⟨ns, rfl, hn, hR⟩
  have st : startD 1 17 [.frl (ns.map .int)] = [.frl (ns.map .int), .off, .off, .off, .off, .off, .off, .off, .off, .off, .off, .off, .off, .off, .off, .off, .off] := rfl
  rw [st]
  unfold w_law
  simp (maxSteps := 2000000) only [x_callZ, x_enumS, x_minD, x_maxD, r_powW, r_mulW, x_izipM, x_glst, x_izip, iz_tup, iz_lst, x_lcV, x_par3, x_lz3, x_lstS, x_star, x_izip3, x_sumL, x_tru, x_rg2, x_metP, x_yes, lo_l, so_l, so_t, tr_int, x_clear, ex_plB, pb_causes, pb_clashes, pb_undone, on_book, x_iseq, is_tup, is_lst, x_seq, x_ifS, x_asg, x_par, x_for, x_gname, x_gnil, x_gcons, x_gtup, x_gixP, x_tup, x_lst, x_cons, x_nil, x_dK, x_op2, x_op1, x_opL, x_ret, x_mov, x_var, x_fz, x_c, x_next, x_drop, x_if, x_and, x_or, x_not, x_chain, x_tchain, x_tcmp, x_tval, x_tand, x_tor, x_tnot, x_isi, x_call, x_args0, x_argsV, x_argsL, x_put0, x_putN, x_putS, x_evN, x_evE, x_ev0, x_evC, x_atN, x_atD, x_metN, x_pn, x_ps, x_sl, x_rg1, x_orT, x_lrg2, x_endR, x_endN, x_outT, x_outF, x_out0, x_keyC, x_keyN, y_int, y_bl, y_str, y_non, y_tup, y_lst, y_frl, y_nil, y_cons, ats_nil, ats_cons, onAt_0, onAt_s, on_tape, on_int, on_str, on_bl, on_non, on_tup, on_lst, on_hole, on_frl, true_and, and_true, and_assoc, List.getElem?_cons_zero, List.getElem?_cons_succ, Option.some.injEq, exists_and_left, exists_eq_left', exists_eq_left, exists_eq_right, exists_eq_right', tape_left, tape_spot, tape_cells, set_spot, set_left, r_int, r_mod, r_fdiv, r_lt, r_le, r_gt, r_ge, r_eq, r_ne, r_eqS, r_neS, r_add, r_addL, r_sub, r_mul, r_mulL, r_pow, r_intB, r_abs, r_neg, r_lenL, r_lenT, r_lenF, r_append, r_popAt, r_extend, r_tyL, r_min, fz_fz, fzL_fz, List.all_cons, List.all_nil, Bool.and_true, Bool.true_and, D.tup.injEq, D.int.injEq, D.bl.injEq, D.str.injEq, D.lst.injEq, List.cons.injEq, List.length_cons, List.length_nil, ex_plN, List.set_cons_succ, List.set_cons_zero, decide_eq_true_eq, Nat.reduceAdd, Nat.reduceLT, Nat.reduceLeDiff, Nat.zero_add, Bool.not_true, Bool.not_false, Bool.not_eq_true, Bool.and_false, Bool.false_and, D.hole.injEq, ite_true, ite_false, if_true, if_false, reduceIte, Bool.false_eq_true, Nat.lt_add_one, reduceCtorEq, false_and, and_false, exists_false, exists_const, ne_eq, not_false_eq_true, true_or, or_true, or_false, false_or, fzL_ints]
  refine ⟨ns, rfl, hn, fun t ht => ?_⟩
  simp (maxSteps := 2000000) only [x_callZ, x_enumS, x_minD, x_maxD, r_powW, r_mulW, x_izipM, x_glst, x_izip, iz_tup, iz_lst, x_lcV, x_par3, x_lz3, x_lstS, x_star, x_izip3, x_sumL, x_tru, x_rg2, x_metP, x_yes, lo_l, so_l, so_t, tr_int, x_clear, ex_plB, pb_causes, pb_clashes, pb_undone, on_book, x_iseq, is_tup, is_lst, x_seq, x_ifS, x_asg, x_par, x_for, x_gname, x_gnil, x_gcons, x_gtup, x_gixP, x_tup, x_lst, x_cons, x_nil, x_dK, x_op2, x_op1, x_opL, x_ret, x_mov, x_var, x_fz, x_c, x_next, x_drop, x_if, x_and, x_or, x_not, x_chain, x_tchain, x_tcmp, x_tval, x_tand, x_tor, x_tnot, x_isi, x_call, x_args0, x_argsV, x_argsL, x_put0, x_putN, x_putS, x_evN, x_evE, x_ev0, x_evC, x_atN, x_atD, x_metN, x_pn, x_ps, x_sl, x_rg1, x_orT, x_lrg2, x_endR, x_endN, x_outT, x_outF, x_out0, x_keyC, x_keyN, y_int, y_bl, y_str, y_non, y_tup, y_lst, y_frl, y_nil, y_cons, ats_nil, ats_cons, onAt_0, onAt_s, on_tape, on_int, on_str, on_bl, on_non, on_tup, on_lst, on_hole, on_frl, true_and, and_true, and_assoc, List.getElem?_cons_zero, List.getElem?_cons_succ, Option.some.injEq, exists_and_left, exists_eq_left', exists_eq_left, exists_eq_right, exists_eq_right', tape_left, tape_spot, tape_cells, set_spot, set_left, r_int, r_mod, r_fdiv, r_lt, r_le, r_gt, r_ge, r_eq, r_ne, r_eqS, r_neS, r_add, r_addL, r_sub, r_mul, r_mulL, r_pow, r_intB, r_abs, r_neg, r_lenL, r_lenT, r_lenF, r_append, r_popAt, r_extend, r_tyL, r_min, fz_fz, fzL_fz, List.all_cons, List.all_nil, Bool.and_true, Bool.true_and, D.tup.injEq, D.int.injEq, D.bl.injEq, D.str.injEq, D.lst.injEq, List.cons.injEq, List.length_cons, List.length_nil, ex_plN, List.set_cons_succ, List.set_cons_zero, decide_eq_true_eq, Nat.reduceAdd, Nat.reduceLT, Nat.reduceLeDiff, Nat.zero_add, Bool.not_true, Bool.not_false, Bool.not_eq_true, Bool.and_false, Bool.false_and, D.hole.injEq, ite_true, ite_false, if_true, if_false, reduceIte, Bool.false_eq_true, Nat.lt_add_one, reduceCtorEq, false_and, and_false, exists_false, exists_const, ne_eq, not_false_eq_true, true_or, or_true, or_false, false_or, ht.on]
  unfold w_law_13
  simp (maxSteps := 2000000) only [x_callZ, x_enumS, x_minD, x_maxD, r_powW, r_mulW, x_izipM, x_glst, x_izip, iz_tup, iz_lst, x_lcV, x_par3, x_lz3, x_lstS, x_star, x_izip3, x_sumL, x_tru, x_rg2, x_metP, x_yes, lo_l, so_l, so_t, tr_int, x_clear, ex_plB, pb_causes, pb_clashes, pb_undone, on_book, x_iseq, is_tup, is_lst, x_seq, x_ifS, x_asg, x_par, x_for, x_gname, x_gnil, x_gcons, x_gtup, x_gixP, x_tup, x_lst, x_cons, x_nil, x_dK, x_op2, x_op1, x_opL, x_ret, x_mov, x_var, x_fz, x_c, x_next, x_drop, x_if, x_and, x_or, x_not, x_chain, x_tchain, x_tcmp, x_tval, x_tand, x_tor, x_tnot, x_isi, x_call, x_args0, x_argsV, x_argsL, x_put0, x_putN, x_putS, x_evN, x_evE, x_ev0, x_evC, x_atN, x_atD, x_metN, x_pn, x_ps, x_sl, x_rg1, x_orT, x_lrg2, x_endR, x_endN, x_outT, x_outF, x_out0, x_keyC, x_keyN, y_int, y_bl, y_str, y_non, y_tup, y_lst, y_frl, y_nil, y_cons, ats_nil, ats_cons, onAt_0, onAt_s, on_tape, on_int, on_str, on_bl, on_non, on_tup, on_lst, on_hole, on_frl, true_and, and_true, and_assoc, List.getElem?_cons_zero, List.getElem?_cons_succ, Option.some.injEq, exists_and_left, exists_eq_left', exists_eq_left, exists_eq_right, exists_eq_right', tape_left, tape_spot, tape_cells, set_spot, set_left, r_int, r_mod, r_fdiv, r_lt, r_le, r_gt, r_ge, r_eq, r_ne, r_eqS, r_neS, r_add, r_addL, r_sub, r_mul, r_mulL, r_pow, r_intB, r_abs, r_neg, r_lenL, r_lenT, r_lenF, r_append, r_popAt, r_extend, r_tyL, r_min, fz_fz, fzL_fz, List.all_cons, List.all_nil, Bool.and_true, Bool.true_and, D.tup.injEq, D.int.injEq, D.bl.injEq, D.str.injEq, D.lst.injEq, List.cons.injEq, List.length_cons, List.length_nil, ex_plN, List.set_cons_succ, List.set_cons_zero, decide_eq_true_eq, Nat.reduceAdd, Nat.reduceLT, Nat.reduceLeDiff, Nat.zero_add, Bool.not_true, Bool.not_false, Bool.not_eq_true, Bool.and_false, Bool.false_and, D.hole.injEq, ite_true, ite_false, if_true, if_false, reduceIte, Bool.false_eq_true, Nat.lt_add_one, reduceCtorEq, false_and, and_false, exists_false, exists_const, ne_eq, not_false_eq_true, true_or, or_true, or_false, false_or, ht.on]
  refine ⟨by decide, by decide, ?_⟩
  refine for_inv (fun i s => ∃ t b2 b3 b4 b5 b6 b7 b8 b9 b10 b11 b12, s = [.frl (ns.map .int), t, b2, b3, b4, b5, b6, b7, b8, b9, b10, b11, b12, .off, .off, .off, .off] ∧ Tape (100000 * (3 - i)) t) ⟨t, _, _, _, _, _, _, _, _, _, _, _, rfl, ht.mono (by decide)⟩ ?_ ?_
  · rintro i x hx s ⟨t, b2, b3, b4, b5, b6, b7, b8, b9, b10, b11, b12, rfl, ht⟩ E' hnx - - -
    obtain ⟨hi, rfl⟩ := rangeD_at hx
    have hi : i < 3 := hi
    have hsub : 100000 * (3 - i) = 100000 * (3 - (i + 1)) + 100000 := by omega
    rw [hsub] at ht
    simp (maxSteps := 2000000) only [x_callZ, x_enumS, x_minD, x_maxD, r_powW, r_mulW, x_izipM, x_glst, x_izip, iz_tup, iz_lst, x_lcV, x_par3, x_lz3, x_lstS, x_star, x_izip3, x_sumL, x_tru, x_rg2, x_metP, x_yes, lo_l, so_l, so_t, tr_int, x_clear, ex_plB, pb_causes, pb_clashes, pb_undone, on_book, x_iseq, is_tup, is_lst, x_seq, x_ifS, x_asg, x_par, x_for, x_gname, x_gnil, x_gcons, x_gtup, x_gixP, x_tup, x_lst, x_cons, x_nil, x_dK, x_op2, x_op1, x_opL, x_ret, x_mov, x_var, x_fz, x_c, x_next, x_drop, x_if, x_and, x_or, x_not, x_chain, x_tchain, x_tcmp, x_tval, x_tand, x_tor, x_tnot, x_isi, x_call, x_args0, x_argsV, x_argsL, x_put0, x_putN, x_putS, x_evN, x_evE, x_ev0, x_evC, x_atN, x_atD, x_metN, x_pn, x_ps, x_sl, x_rg1, x_orT, x_lrg2, x_endR, x_endN, x_outT, x_outF, x_out0, x_keyC, x_keyN, y_int, y_bl, y_str, y_non, y_tup, y_lst, y_frl, y_nil, y_cons, ats_nil, ats_cons, onAt_0, onAt_s, on_tape, on_int, on_str, on_bl, on_non, on_tup, on_lst, on_hole, on_frl, true_and, and_true, and_assoc, List.getElem?_cons_zero, List.getElem?_cons_succ, Option.some.injEq, exists_and_left, exists_eq_left', exists_eq_left, exists_eq_right, exists_eq_right', tape_left, tape_spot, tape_cells, set_spot, set_left, r_int, r_mod, r_fdiv, r_lt, r_le, r_gt, r_ge, r_eq, r_ne, r_eqS, r_neS, r_add, r_addL, r_sub, r_mul, r_mulL, r_pow, r_intB, r_abs, r_neg, r_lenL, r_lenT, r_lenF, r_append, r_popAt, r_extend, r_tyL, r_min, fz_fz, fzL_fz, List.all_cons, List.all_nil, Bool.and_true, Bool.true_and, D.tup.injEq, D.int.injEq, D.bl.injEq, D.str.injEq, D.lst.injEq, List.cons.injEq, List.length_cons, List.length_nil, ex_plN, List.set_cons_succ, List.set_cons_zero, decide_eq_true_eq, Nat.reduceAdd, Nat.reduceLT, Nat.reduceLeDiff, Nat.zero_add, Bool.not_true, Bool.not_false, Bool.not_eq_true, Bool.and_false, Bool.false_and, D.hole.injEq, ite_true, ite_false, if_true, if_false, reduceIte, Bool.false_eq_true, Nat.lt_add_one, reduceCtorEq, false_and, and_false, exists_false, exists_const, ne_eq, not_false_eq_true, true_or, or_true, or_false, false_or, ht.on]
    intro v
    refine to_draw (n := 100000 * (3 - (i + 1)) + 99000) (ht.mono (by omega)) (by omega) (by omega) fun m t1 hm0 hm1 ht1 => ?_
    simp (maxSteps := 2000000) only [x_callZ, x_enumS, x_minD, x_maxD, r_powW, r_mulW, x_izipM, x_glst, x_izip, iz_tup, iz_lst, x_lcV, x_par3, x_lz3, x_lstS, x_star, x_izip3, x_sumL, x_tru, x_rg2, x_metP, x_yes, lo_l, so_l, so_t, tr_int, x_clear, ex_plB, pb_causes, pb_clashes, pb_undone, on_book, x_iseq, is_tup, is_lst, x_seq, x_ifS, x_asg, x_par, x_for, x_gname, x_gnil, x_gcons, x_gtup, x_gixP, x_tup, x_lst, x_cons, x_nil, x_dK, x_op2, x_op1, x_opL, x_ret, x_mov, x_var, x_fz, x_c, x_next, x_drop, x_if, x_and, x_or, x_not, x_chain, x_tchain, x_tcmp, x_tval, x_tand, x_tor, x_tnot, x_isi, x_call, x_args0, x_argsV, x_argsL, x_put0, x_putN, x_putS, x_evN, x_evE, x_ev0, x_evC, x_atN, x_atD, x_metN, x_pn, x_ps, x_sl, x_rg1, x_orT, x_lrg2, x_endR, x_endN, x_outT, x_outF, x_out0, x_keyC, x_keyN, y_int, y_bl, y_str, y_non, y_tup, y_lst, y_frl, y_nil, y_cons, ats_nil, ats_cons, onAt_0, onAt_s, on_tape, on_int, on_str, on_bl, on_non, on_tup, on_lst, on_hole, on_frl, true_and, and_true, and_assoc, List.getElem?_cons_zero, List.getElem?_cons_succ, Option.some.injEq, exists_and_left, exists_eq_left', exists_eq_left, exists_eq_right, exists_eq_right', tape_left, tape_spot, tape_cells, set_spot, set_left, r_int, r_mod, r_fdiv, r_lt, r_le, r_gt, r_ge, r_eq, r_ne, r_eqS, r_neS, r_add, r_addL, r_sub, r_mul, r_mulL, r_pow, r_intB, r_abs, r_neg, r_lenL, r_lenT, r_lenF, r_append, r_popAt, r_extend, r_tyL, r_min, fz_fz, fzL_fz, List.all_cons, List.all_nil, Bool.and_true, Bool.true_and, D.tup.injEq, D.int.injEq, D.bl.injEq, D.str.injEq, D.lst.injEq, List.cons.injEq, List.length_cons, List.length_nil, ex_plN, List.set_cons_succ, List.set_cons_zero, decide_eq_true_eq, Nat.reduceAdd, Nat.reduceLT, Nat.reduceLeDiff, Nat.zero_add, Bool.not_true, Bool.not_false, Bool.not_eq_true, Bool.and_false, Bool.false_and, D.hole.injEq, ite_true, ite_false, if_true, if_false, reduceIte, Bool.false_eq_true, Nat.lt_add_one, reduceCtorEq, false_and, and_false, exists_false, exists_const, ne_eq, not_false_eq_true, true_or, or_true, or_false, false_or, ht1.on]
    intro v
    refine ⟨t1, m, 100000 * (3 - (i + 1)) + 79000, rfl, ht1.mono (by omega), hm0, by omega, fun b t2 hb ht2 => ?_⟩
    have hb := book_fz hb
    have hbo := book_on hb
    simp (maxSteps := 2000000) only [x_callZ, x_enumS, x_minD, x_maxD, r_powW, r_mulW, x_izipM, x_glst, x_izip, iz_tup, iz_lst, x_lcV, x_par3, x_lz3, x_lstS, x_star, x_izip3, x_sumL, x_tru, x_rg2, x_metP, x_yes, lo_l, so_l, so_t, tr_int, x_clear, ex_plB, pb_causes, pb_clashes, pb_undone, on_book, x_iseq, is_tup, is_lst, x_seq, x_ifS, x_asg, x_par, x_for, x_gname, x_gnil, x_gcons, x_gtup, x_gixP, x_tup, x_lst, x_cons, x_nil, x_dK, x_op2, x_op1, x_opL, x_ret, x_mov, x_var, x_fz, x_c, x_next, x_drop, x_if, x_and, x_or, x_not, x_chain, x_tchain, x_tcmp, x_tval, x_tand, x_tor, x_tnot, x_isi, x_call, x_args0, x_argsV, x_argsL, x_put0, x_putN, x_putS, x_evN, x_evE, x_ev0, x_evC, x_atN, x_atD, x_metN, x_pn, x_ps, x_sl, x_rg1, x_orT, x_lrg2, x_endR, x_endN, x_outT, x_outF, x_out0, x_keyC, x_keyN, y_int, y_bl, y_str, y_non, y_tup, y_lst, y_frl, y_nil, y_cons, ats_nil, ats_cons, onAt_0, onAt_s, on_tape, on_int, on_str, on_bl, on_non, on_tup, on_lst, on_hole, on_frl, true_and, and_true, and_assoc, List.getElem?_cons_zero, List.getElem?_cons_succ, Option.some.injEq, exists_and_left, exists_eq_left', exists_eq_left, exists_eq_right, exists_eq_right', tape_left, tape_spot, tape_cells, set_spot, set_left, r_int, r_mod, r_fdiv, r_lt, r_le, r_gt, r_ge, r_eq, r_ne, r_eqS, r_neS, r_add, r_addL, r_sub, r_mul, r_mulL, r_pow, r_intB, r_abs, r_neg, r_lenL, r_lenT, r_lenF, r_append, r_popAt, r_extend, r_tyL, r_min, fz_fz, fzL_fz, List.all_cons, List.all_nil, Bool.and_true, Bool.true_and, D.tup.injEq, D.int.injEq, D.bl.injEq, D.str.injEq, D.lst.injEq, List.cons.injEq, List.length_cons, List.length_nil, ex_plN, List.set_cons_succ, List.set_cons_zero, decide_eq_true_eq, Nat.reduceAdd, Nat.reduceLT, Nat.reduceLeDiff, Nat.zero_add, Bool.not_true, Bool.not_false, Bool.not_eq_true, Bool.and_false, Bool.false_and, D.hole.injEq, ite_true, ite_false, if_true, if_false, reduceIte, Bool.false_eq_true, Nat.lt_add_one, reduceCtorEq, false_and, and_false, exists_false, exists_const, ne_eq, not_false_eq_true, true_or, or_true, or_false, false_or, ht2.on]
    intro v
    refine ⟨t2, 100000 * (3 - (i + 1)) + 78900, rfl, ht2.mono (by omega), fun f t3 hf0 hf1 ht3 => ?_⟩
    simp (maxSteps := 2000000) only [x_callZ, x_enumS, x_minD, x_maxD, r_powW, r_mulW, x_izipM, x_glst, x_izip, iz_tup, iz_lst, x_lcV, x_par3, x_lz3, x_lstS, x_star, x_izip3, x_sumL, x_tru, x_rg2, x_metP, x_yes, lo_l, so_l, so_t, tr_int, x_clear, ex_plB, pb_causes, pb_clashes, pb_undone, on_book, x_iseq, is_tup, is_lst, x_seq, x_ifS, x_asg, x_par, x_for, x_gname, x_gnil, x_gcons, x_gtup, x_gixP, x_tup, x_lst, x_cons, x_nil, x_dK, x_op2, x_op1, x_opL, x_ret, x_mov, x_var, x_fz, x_c, x_next, x_drop, x_if, x_and, x_or, x_not, x_chain, x_tchain, x_tcmp, x_tval, x_tand, x_tor, x_tnot, x_isi, x_call, x_args0, x_argsV, x_argsL, x_put0, x_putN, x_putS, x_evN, x_evE, x_ev0, x_evC, x_atN, x_atD, x_metN, x_pn, x_ps, x_sl, x_rg1, x_orT, x_lrg2, x_endR, x_endN, x_outT, x_outF, x_out0, x_keyC, x_keyN, y_int, y_bl, y_str, y_non, y_tup, y_lst, y_frl, y_nil, y_cons, ats_nil, ats_cons, onAt_0, onAt_s, on_tape, on_int, on_str, on_bl, on_non, on_tup, on_lst, on_hole, on_frl, true_and, and_true, and_assoc, List.getElem?_cons_zero, List.getElem?_cons_succ, Option.some.injEq, exists_and_left, exists_eq_left', exists_eq_left, exists_eq_right, exists_eq_right', tape_left, tape_spot, tape_cells, set_spot, set_left, r_int, r_mod, r_fdiv, r_lt, r_le, r_gt, r_ge, r_eq, r_ne, r_eqS, r_neS, r_add, r_addL, r_sub, r_mul, r_mulL, r_pow, r_intB, r_abs, r_neg, r_lenL, r_lenT, r_lenF, r_append, r_popAt, r_extend, r_tyL, r_min, fz_fz, fzL_fz, List.all_cons, List.all_nil, Bool.and_true, Bool.true_and, D.tup.injEq, D.int.injEq, D.bl.injEq, D.str.injEq, D.lst.injEq, List.cons.injEq, List.length_cons, List.length_nil, ex_plN, List.set_cons_succ, List.set_cons_zero, decide_eq_true_eq, Nat.reduceAdd, Nat.reduceLT, Nat.reduceLeDiff, Nat.zero_add, Bool.not_true, Bool.not_false, Bool.not_eq_true, Bool.and_false, Bool.false_and, D.hole.injEq, ite_true, ite_false, if_true, if_false, reduceIte, Bool.false_eq_true, Nat.lt_add_one, reduceCtorEq, false_and, and_false, exists_false, exists_const, ne_eq, not_false_eq_true, true_or, or_true, or_false, false_or, ht3.on, hbo]
    intro v
    refine ⟨t3, fz b, f, m.toNat, 100000 * (3 - (i + 1)) + 100, rfl, hb, hf0, by omega, ht3.mono (by omega), fun S t4 hSl hS ht4 => ?_⟩
    simp (maxSteps := 2000000) only [x_callZ, x_enumS, x_minD, x_maxD, r_powW, r_mulW, x_izipM, x_glst, x_izip, iz_tup, iz_lst, x_lcV, x_par3, x_lz3, x_lstS, x_star, x_izip3, x_sumL, x_tru, x_rg2, x_metP, x_yes, lo_l, so_l, so_t, tr_int, x_clear, ex_plB, pb_causes, pb_clashes, pb_undone, on_book, x_iseq, is_tup, is_lst, x_seq, x_ifS, x_asg, x_par, x_for, x_gname, x_gnil, x_gcons, x_gtup, x_gixP, x_tup, x_lst, x_cons, x_nil, x_dK, x_op2, x_op1, x_opL, x_ret, x_mov, x_var, x_fz, x_c, x_next, x_drop, x_if, x_and, x_or, x_not, x_chain, x_tchain, x_tcmp, x_tval, x_tand, x_tor, x_tnot, x_isi, x_call, x_args0, x_argsV, x_argsL, x_put0, x_putN, x_putS, x_evN, x_evE, x_ev0, x_evC, x_atN, x_atD, x_metN, x_pn, x_ps, x_sl, x_rg1, x_orT, x_lrg2, x_endR, x_endN, x_outT, x_outF, x_out0, x_keyC, x_keyN, y_int, y_bl, y_str, y_non, y_tup, y_lst, y_frl, y_nil, y_cons, ats_nil, ats_cons, onAt_0, onAt_s, on_tape, on_int, on_str, on_bl, on_non, on_tup, on_lst, on_hole, on_frl, true_and, and_true, and_assoc, List.getElem?_cons_zero, List.getElem?_cons_succ, Option.some.injEq, exists_and_left, exists_eq_left', exists_eq_left, exists_eq_right, exists_eq_right', tape_left, tape_spot, tape_cells, set_spot, set_left, r_int, r_mod, r_fdiv, r_lt, r_le, r_gt, r_ge, r_eq, r_ne, r_eqS, r_neS, r_add, r_addL, r_sub, r_mul, r_mulL, r_pow, r_intB, r_abs, r_neg, r_lenL, r_lenT, r_lenF, r_append, r_popAt, r_extend, r_tyL, r_min, fz_fz, fzL_fz, List.all_cons, List.all_nil, Bool.and_true, Bool.true_and, D.tup.injEq, D.int.injEq, D.bl.injEq, D.str.injEq, D.lst.injEq, List.cons.injEq, List.length_cons, List.length_nil, ex_plN, List.set_cons_succ, List.set_cons_zero, decide_eq_true_eq, Nat.reduceAdd, Nat.reduceLT, Nat.reduceLeDiff, Nat.zero_add, Bool.not_true, Bool.not_false, Bool.not_eq_true, Bool.and_false, Bool.false_and, D.hole.injEq, ite_true, ite_false, if_true, if_false, reduceIte, Bool.false_eq_true, Nat.lt_add_one, reduceCtorEq, false_and, and_false, exists_false, exists_const, ne_eq, not_false_eq_true, true_or, or_true, or_false, false_or, ht4.on, hbo]
    exact law11 (n := m.toNat) ht4 (fun h => by rw [h] at hSl; simp at hSl; omega) (flat_spots (book_k hb) (by omega) hS) (fun σ hσ => spot_len (hS σ hσ)) fun t5 c3 c4 c5 c6 c7 c8 c9 c10 c11 c12 ht5 => hnx _ ⟨t5, _, c3, c4, c5, c6, c7, c8, c9, c10, c11, c12, rfl, ht5⟩
  · rintro s ⟨t, b2, b3, b4, b5, b6, b7, b8, b9, b10, b11, b12, rfl, ht⟩
    show w_law_12 (endsB [false] R) _
    unfold w_law_12
    simp (maxSteps := 2000000) only [x_callZ, x_enumS, x_minD, x_maxD, r_powW, r_mulW, x_izipM, x_glst, x_izip, iz_tup, iz_lst, x_lcV, x_par3, x_lz3, x_lstS, x_star, x_izip3, x_sumL, x_tru, x_rg2, x_metP, x_yes, lo_l, so_l, so_t, tr_int, x_clear, ex_plB, pb_causes, pb_clashes, pb_undone, on_book, x_iseq, is_tup, is_lst, x_seq, x_ifS, x_asg, x_par, x_for, x_gname, x_gnil, x_gcons, x_gtup, x_gixP, x_tup, x_lst, x_cons, x_nil, x_dK, x_op2, x_op1, x_opL, x_ret, x_mov, x_var, x_fz, x_c, x_next, x_drop, x_if, x_and, x_or, x_not, x_chain, x_tchain, x_tcmp, x_tval, x_tand, x_tor, x_tnot, x_isi, x_call, x_args0, x_argsV, x_argsL, x_put0, x_putN, x_putS, x_evN, x_evE, x_ev0, x_evC, x_atN, x_atD, x_metN, x_pn, x_ps, x_sl, x_rg1, x_orT, x_lrg2, x_endR, x_endN, x_outT, x_outF, x_out0, x_keyC, x_keyN, y_int, y_bl, y_str, y_non, y_tup, y_lst, y_frl, y_nil, y_cons, ats_nil, ats_cons, onAt_0, onAt_s, on_tape, on_int, on_str, on_bl, on_non, on_tup, on_lst, on_hole, on_frl, true_and, and_true, and_assoc, List.getElem?_cons_zero, List.getElem?_cons_succ, Option.some.injEq, exists_and_left, exists_eq_left', exists_eq_left, exists_eq_right, exists_eq_right', tape_left, tape_spot, tape_cells, set_spot, set_left, r_int, r_mod, r_fdiv, r_lt, r_le, r_gt, r_ge, r_eq, r_ne, r_eqS, r_neS, r_add, r_addL, r_sub, r_mul, r_mulL, r_pow, r_intB, r_abs, r_neg, r_lenL, r_lenT, r_lenF, r_append, r_popAt, r_extend, r_tyL, r_min, fz_fz, fzL_fz, List.all_cons, List.all_nil, Bool.and_true, Bool.true_and, D.tup.injEq, D.int.injEq, D.bl.injEq, D.str.injEq, D.lst.injEq, List.cons.injEq, List.length_cons, List.length_nil, ex_plN, List.set_cons_succ, List.set_cons_zero, decide_eq_true_eq, Nat.reduceAdd, Nat.reduceLT, Nat.reduceLeDiff, Nat.zero_add, Bool.not_true, Bool.not_false, Bool.not_eq_true, Bool.and_false, Bool.false_and, D.hole.injEq, ite_true, ite_false, if_true, if_false, reduceIte, Bool.false_eq_true, Nat.lt_add_one, reduceCtorEq, false_and, and_false, exists_false, exists_const, ne_eq, not_false_eq_true, true_or, or_true, or_false, false_or]
    exact hR
end Q

namespace Q
open PySem PySem.Spec PyProof.Rows L2 M
section
variable {P : Program} {w : World} {K : PySem.W.Frag} {mg : Str → Option Value} {base : Heap}
theorem ok_threes {f : Addr} {fd : FuncData} (Fn : Fun K "threes" "threes" st_threes f fd) (hz : ∀ x ∈ bn, mg x = none) : FnG P w K mg base 1 f fd ["things", "ring"] (spM K 2 S_threes) :=
  ok_MG (bs := [false, false]) Fn sc_threes (fun cdv A outer s H hr hgd => dv_threes hz cdv A outer s H hr hgd) wp_threes
theorem ok_meet {f : Addr} {fd : FuncData} (Fn : Fun K "meet" "meet" st_meet f fd) (hz : ∀ x ∈ bn, mg x = none) : FnG P w K mg base 1 f fd ["one", "two", "three"] (spM K 3 S_meet) :=
  ok_MG (bs := [false, false, false]) Fn sc_meet (fun cdv A outer s H hr hgd => dv_meet hz cdv A outer s H hr hgd) wp_meet
theorem ok_beat {f : Addr} {fd : FuncData} (Fn : Fun K "beat" "beat" st_beat f fd) (hz : ∀ x ∈ bn, mg x = none) (h_threes : Has P w K mg base 1 2 "threes" ["things", "ring"] S_threes) (h_meet : Has P w K mg base 1 3 "meet" ["one", "two", "three"] S_meet) : FnG P w K mg base 2 f fd ["stand", "ring"] (spM K 2 S_beat) :=
  ok_MG (bs := [false, false]) Fn sc_beat (fun cdv A outer s H hr hgd => dv_beat hz h_threes h_meet cdv A outer s H hr hgd) wp_beat
theorem ok__law_begun {f : Addr} {fd : FuncData} (Fn : Fun K "_law_begun" "_law_begun" st__law_begun f fd) (hz : ∀ x ∈ bn, mg x = none) : FnG P w K mg base 1 f fd ["_law_script"] (spM K 1 S__law_begun) :=
  ok_MG (bs := [false]) Fn sc__law_begun (fun cdv A outer s H hr hgd => dv__law_begun hz cdv A outer s H hr hgd) wp_begun
theorem ok__law_draw {f : Addr} {fd : FuncData} (Fn : Fun K "_law_draw" "_law_draw" st__law_draw f fd) (hz : ∀ x ∈ bn, mg x = none) : FnG P w K mg base 1 f fd ["_law_tape", "_law_many"] (spM K 2 S__law_draw) :=
  ok_MG (bs := [true, false]) Fn sc__law_draw (fun cdv A outer s H hr hgd => dv__law_draw hz cdv A outer s H hr hgd) wp_draw
theorem ok__law_pick {f : Addr} {fd : FuncData} (Fn : Fun K "_law_pick" "_law_pick" st__law_pick f fd) (hz : ∀ x ∈ bn, mg x = none) (h__law_draw : Has P w K mg base 1 2 "_law_draw" ["_law_tape", "_law_many"] S__law_draw) : FnG P w K mg base 2 f fd ["_law_tape", "_law_some"] (spM K 2 S__law_pick) :=
  ok_MG (bs := [true, false]) Fn sc__law_pick (fun cdv A outer s H hr hgd => dv__law_pick hz h__law_draw cdv A outer s H hr hgd) wp_pick
theorem ok__law_done {f : Addr} {fd : FuncData} (Fn : Fun K "_law_done" "_law_done" st__law_done f fd) (hz : ∀ x ∈ bn, mg x = none) (h__law_pick : Has P w K mg base 2 2 "_law_pick" ["_law_tape", "_law_some"] S__law_pick) (h__law_draw : Has P w K mg base 1 2 "_law_draw" ["_law_tape", "_law_many"] S__law_draw) : FnG P w K mg base 3 f fd ["_law_tape", "_law_causes", "_law_clashes"] (spM K 3 S__law_done) :=
  ok_MG (bs := [true, true, true]) Fn sc__law_done (fun cdv A outer s H hr hgd => dv__law_done hz h__law_pick h__law_draw cdv A outer s H hr hgd) wp_done
theorem ok__law_book {f : Addr} {fd : FuncData} (Fn : Fun K "_law_book" "_law_book" st__law_book f fd) (hz : ∀ x ∈ bn, mg x = none) (h__law_pick : Has P w K mg base 2 2 "_law_pick" ["_law_tape", "_law_some"] S__law_pick) (h__law_done : Has P w K mg base 3 3 "_law_done" ["_law_tape", "_law_causes", "_law_clashes"] S__law_done) (h__law_draw : Has P w K mg base 1 2 "_law_draw" ["_law_tape", "_law_many"] S__law_draw) : FnG P w K mg base 4 f fd ["_law_tape", "_law_many"] (spM K 2 S__law_book) :=
  ok_MG (bs := [true, false]) Fn sc__law_book (fun cdv A outer s H hr hgd => dv__law_book hz h__law_pick h__law_done h__law_draw cdv A outer s H hr hgd) wp_book
theorem ok__law_spot {f : Addr} {fd : FuncData} (Fn : Fun K "_law_spot" "_law_spot" st__law_spot f fd) (hz : ∀ x ∈ bn, mg x = none) (h__law_done : Has P w K mg base 3 3 "_law_done" ["_law_tape", "_law_causes", "_law_clashes"] S__law_done) : FnG P w K mg base 4 f fd ["_law_tape", "_law_book_here"] (spM K 2 S__law_spot) :=
  ok_MG (bs := [true, true]) Fn sc__law_spot (fun cdv A outer s H hr hgd => dv__law_spot hz h__law_done cdv A outer s H hr hgd) wp_spot
theorem ok__law_stand {f : Addr} {fd : FuncData} (Fn : Fun K "_law_stand" "_law_stand" st__law_stand f fd) (hz : ∀ x ∈ bn, mg x = none) (h__law_pick : Has P w K mg base 2 2 "_law_pick" ["_law_tape", "_law_some"] S__law_pick) (h__law_spot : Has P w K mg base 4 2 "_law_spot" ["_law_tape", "_law_book_here"] S__law_spot) (h__law_draw : Has P w K mg base 1 2 "_law_draw" ["_law_tape", "_law_many"] S__law_draw) : FnG P w K mg base 5 f fd ["_law_tape", "_law_book_here", "_law_many"] (spM K 3 S__law_stand) :=
  ok_MG (bs := [true, true, false]) Fn sc__law_stand (fun cdv A outer s H hr hgd => dv__law_stand hz h__law_pick h__law_spot h__law_draw cdv A outer s H hr hgd) wp_stand
theorem ok__law_kind {f : Addr} {fd : FuncData} (Fn : Fun K "_law_kind" "_law_kind" st__law_kind f fd) (hz : ∀ x ∈ bn, mg x = none) (h__law_draw : Has P w K mg base 1 2 "_law_draw" ["_law_tape", "_law_many"] S__law_draw) : FnG P w K mg base 2 f fd ["_law_tape", "_law_stand_here"] (spM K 2 S__law_kind) :=
  ok_MG (bs := [true, false]) Fn sc__law_kind (fun cdv A outer s H hr hgd => dv__law_kind hz h__law_draw cdv A outer s H hr hgd) wp_kind
theorem ok__law_folk {f : Addr} {fd : FuncData} (Fn : Fun K "_law_folk" "_law_folk" st__law_folk f fd) (hz : ∀ x ∈ bn, mg x = none) (h__law_draw : Has P w K mg base 1 2 "_law_draw" ["_law_tape", "_law_many"] S__law_draw) (h__law_pick : Has P w K mg base 2 2 "_law_pick" ["_law_tape", "_law_some"] S__law_pick) : FnG P w K mg base 3 f fd ["_law_tape"] (spM K 1 S__law_folk) :=
  ok_MG (bs := [true]) Fn sc__law_folk (fun cdv A outer s H hr hgd => dv__law_folk hz h__law_draw h__law_pick cdv A outer s H hr hgd) wp_folk
theorem ok_law {f : Addr} {fd : FuncData} (Fn : Fun K "law" "law" st_law f fd) (hz : ∀ x ∈ bn, mg x = none) (h__law_begun : Has P w K mg base 1 1 "_law_begun" ["_law_script"] S__law_begun) (h__law_draw : Has P w K mg base 1 2 "_law_draw" ["_law_tape", "_law_many"] S__law_draw) (h__law_book : Has P w K mg base 4 2 "_law_book" ["_law_tape", "_law_many"] S__law_book) (h__law_folk : Has P w K mg base 3 1 "_law_folk" ["_law_tape"] S__law_folk) (h__law_stand : Has P w K mg base 5 3 "_law_stand" ["_law_tape", "_law_book_here", "_law_many"] S__law_stand) (h__law_kind : Has P w K mg base 2 2 "_law_kind" ["_law_tape", "_law_stand_here"] S__law_kind) (h_beat : HasK P w K mg base 2 1 "beat" "ring" ["stand", "ring"] S_beat) : FnG P w K mg base 6 f fd ["_law_script"] (spM K 1 S_law) :=
  ok_MG (bs := [false]) Fn sc_law (fun cdv A outer s H hr hgd => dv_law hz h__law_begun h__law_draw h__law_book h__law_folk h__law_stand h__law_kind h_beat cdv A outer s H hr hgd) wp_law
end
theorem all_mk {l : PySem.W.OpenLaw} {w : World} {K : PySem.W.Frag} {h : Heap} {mg : Str → Option Value} {fa : Addr} (X : K.In h) (G : h.Ns mainGlobals mg) (hfa : mg "law" = some (.ref fa))
    {od0 an0 : Option Addr} {sl0 : Array (Option Value)} {f0 : Addr} {oc0 kV0 dc0 pm0 cd0 ct0 : Value}
    (a0 : PySem.W.nsIn K mainGlobals "threes" = some (some (.ref f0))) (l0 : K.lookup f0 = some ⟨oc0, od0, .func (PySem.W.fnOf "threes" "threes" (defArgs st_threes) (defBody st_threes) (defScope st_threes) .none kV0 dc0 pm0 an0 cd0 ct0), sl0⟩) (c0 : PySem.W.codeIn K cd0 "threes" = true) (k0 : PySem.W.keepIn K (.ref f0) = true)
    {od1 an1 : Option Addr} {sl1 : Array (Option Value)} {f1 : Addr} {oc1 kV1 dc1 pm1 cd1 ct1 : Value}
    (a1 : PySem.W.nsIn K mainGlobals "meet" = some (some (.ref f1))) (l1 : K.lookup f1 = some ⟨oc1, od1, .func (PySem.W.fnOf "meet" "meet" (defArgs st_meet) (defBody st_meet) (defScope st_meet) .none kV1 dc1 pm1 an1 cd1 ct1), sl1⟩) (c1 : PySem.W.codeIn K cd1 "meet" = true) (k1 : PySem.W.keepIn K (.ref f1) = true)
    {od2 an2 : Option Addr} {sl2 : Array (Option Value)} {f2 D2 : Addr} {oc2 dc2 pm2 cd2 ct2 : Value}
    (a2 : PySem.W.nsIn K mainGlobals "beat" = some (some (.ref f2))) (l2 : K.lookup f2 = some ⟨oc2, od2, .func (PySem.W.fnOf "beat" "beat" (defArgs st_beat) (defBody st_beat) (defScope st_beat) .none (.ref D2) dc2 pm2 an2 cd2 ct2), sl2⟩) (c2 : PySem.W.codeIn K cd2 "beat" = true) (k2 : PySem.W.keepIn K (.ref f2) = true)
    (w2 : PySem.W.nsIn K D2 "ring" = some (some (.bool false)))
    {od3 an3 : Option Addr} {sl3 : Array (Option Value)} {f3 : Addr} {oc3 kV3 dc3 pm3 cd3 ct3 : Value}
    (a3 : PySem.W.nsIn K mainGlobals "_law_begun" = some (some (.ref f3))) (l3 : K.lookup f3 = some ⟨oc3, od3, .func (PySem.W.fnOf "_law_begun" "_law_begun" (defArgs st__law_begun) (defBody st__law_begun) (defScope st__law_begun) .none kV3 dc3 pm3 an3 cd3 ct3), sl3⟩) (c3 : PySem.W.codeIn K cd3 "_law_begun" = true) (k3 : PySem.W.keepIn K (.ref f3) = true)
    {od4 an4 : Option Addr} {sl4 : Array (Option Value)} {f4 : Addr} {oc4 kV4 dc4 pm4 cd4 ct4 : Value}
    (a4 : PySem.W.nsIn K mainGlobals "_law_draw" = some (some (.ref f4))) (l4 : K.lookup f4 = some ⟨oc4, od4, .func (PySem.W.fnOf "_law_draw" "_law_draw" (defArgs st__law_draw) (defBody st__law_draw) (defScope st__law_draw) .none kV4 dc4 pm4 an4 cd4 ct4), sl4⟩) (c4 : PySem.W.codeIn K cd4 "_law_draw" = true) (k4 : PySem.W.keepIn K (.ref f4) = true)
    {od5 an5 : Option Addr} {sl5 : Array (Option Value)} {f5 : Addr} {oc5 kV5 dc5 pm5 cd5 ct5 : Value}
    (a5 : PySem.W.nsIn K mainGlobals "_law_pick" = some (some (.ref f5))) (l5 : K.lookup f5 = some ⟨oc5, od5, .func (PySem.W.fnOf "_law_pick" "_law_pick" (defArgs st__law_pick) (defBody st__law_pick) (defScope st__law_pick) .none kV5 dc5 pm5 an5 cd5 ct5), sl5⟩) (c5 : PySem.W.codeIn K cd5 "_law_pick" = true) (k5 : PySem.W.keepIn K (.ref f5) = true)
    {od6 an6 : Option Addr} {sl6 : Array (Option Value)} {f6 : Addr} {oc6 kV6 dc6 pm6 cd6 ct6 : Value}
    (a6 : PySem.W.nsIn K mainGlobals "_law_done" = some (some (.ref f6))) (l6 : K.lookup f6 = some ⟨oc6, od6, .func (PySem.W.fnOf "_law_done" "_law_done" (defArgs st__law_done) (defBody st__law_done) (defScope st__law_done) .none kV6 dc6 pm6 an6 cd6 ct6), sl6⟩) (c6 : PySem.W.codeIn K cd6 "_law_done" = true) (k6 : PySem.W.keepIn K (.ref f6) = true)
    {od7 an7 : Option Addr} {sl7 : Array (Option Value)} {f7 : Addr} {oc7 kV7 dc7 pm7 cd7 ct7 : Value}
    (a7 : PySem.W.nsIn K mainGlobals "_law_book" = some (some (.ref f7))) (l7 : K.lookup f7 = some ⟨oc7, od7, .func (PySem.W.fnOf "_law_book" "_law_book" (defArgs st__law_book) (defBody st__law_book) (defScope st__law_book) .none kV7 dc7 pm7 an7 cd7 ct7), sl7⟩) (c7 : PySem.W.codeIn K cd7 "_law_book" = true) (k7 : PySem.W.keepIn K (.ref f7) = true)
    {od8 an8 : Option Addr} {sl8 : Array (Option Value)} {f8 : Addr} {oc8 kV8 dc8 pm8 cd8 ct8 : Value}
    (a8 : PySem.W.nsIn K mainGlobals "_law_spot" = some (some (.ref f8))) (l8 : K.lookup f8 = some ⟨oc8, od8, .func (PySem.W.fnOf "_law_spot" "_law_spot" (defArgs st__law_spot) (defBody st__law_spot) (defScope st__law_spot) .none kV8 dc8 pm8 an8 cd8 ct8), sl8⟩) (c8 : PySem.W.codeIn K cd8 "_law_spot" = true) (k8 : PySem.W.keepIn K (.ref f8) = true)
    {od9 an9 : Option Addr} {sl9 : Array (Option Value)} {f9 : Addr} {oc9 kV9 dc9 pm9 cd9 ct9 : Value}
    (a9 : PySem.W.nsIn K mainGlobals "_law_stand" = some (some (.ref f9))) (l9 : K.lookup f9 = some ⟨oc9, od9, .func (PySem.W.fnOf "_law_stand" "_law_stand" (defArgs st__law_stand) (defBody st__law_stand) (defScope st__law_stand) .none kV9 dc9 pm9 an9 cd9 ct9), sl9⟩) (c9 : PySem.W.codeIn K cd9 "_law_stand" = true) (k9 : PySem.W.keepIn K (.ref f9) = true)
    {od10 an10 : Option Addr} {sl10 : Array (Option Value)} {f10 : Addr} {oc10 kV10 dc10 pm10 cd10 ct10 : Value}
    (a10 : PySem.W.nsIn K mainGlobals "_law_kind" = some (some (.ref f10))) (l10 : K.lookup f10 = some ⟨oc10, od10, .func (PySem.W.fnOf "_law_kind" "_law_kind" (defArgs st__law_kind) (defBody st__law_kind) (defScope st__law_kind) .none kV10 dc10 pm10 an10 cd10 ct10), sl10⟩) (c10 : PySem.W.codeIn K cd10 "_law_kind" = true) (k10 : PySem.W.keepIn K (.ref f10) = true)
    {od11 an11 : Option Addr} {sl11 : Array (Option Value)} {f11 : Addr} {oc11 kV11 dc11 pm11 cd11 ct11 : Value}
    (a11 : PySem.W.nsIn K mainGlobals "_law_folk" = some (some (.ref f11))) (l11 : K.lookup f11 = some ⟨oc11, od11, .func (PySem.W.fnOf "_law_folk" "_law_folk" (defArgs st__law_folk) (defBody st__law_folk) (defScope st__law_folk) .none kV11 dc11 pm11 an11 cd11 ct11), sl11⟩) (c11 : PySem.W.codeIn K cd11 "_law_folk" = true) (k11 : PySem.W.keepIn K (.ref f11) = true)
    {od12 an12 : Option Addr} {sl12 : Array (Option Value)} {f12 : Addr} {oc12 kV12 dc12 pm12 cd12 ct12 : Value}
    (a12 : PySem.W.nsIn K mainGlobals "law" = some (some (.ref f12))) (l12 : K.lookup f12 = some ⟨oc12, od12, .func (PySem.W.fnOf "law" "law" (defArgs st_law) (defBody st_law) (defScope st_law) .none kV12 dc12 pm12 an12 cd12 ct12), sl12⟩) (c12 : PySem.W.codeIn K cd12 "law" = true) (k12 : PySem.W.keepIn K (.ref f12) = true)
    (z0 : PySem.W.nsIn K mainGlobals "abs" = some none)
    (z1 : PySem.W.nsIn K mainGlobals "int" = some none)
    (z2 : PySem.W.nsIn K mainGlobals "len" = some none)
    (z3 : PySem.W.nsIn K mainGlobals "list" = some none)
    (z4 : PySem.W.nsIn K mainGlobals "range" = some none)
    (z5 : PySem.W.nsIn K mainGlobals "repr" = some none)
    (z6 : PySem.W.nsIn K mainGlobals "sorted" = some none)
    (z7 : PySem.W.nsIn K mainGlobals "sum" = some none)
    (z8 : PySem.W.nsIn K mainGlobals "tuple" = some none)
    (z9 : PySem.W.nsIn K mainGlobals "zip" = some none) :
    ∃ fd : FuncData, (∀ (s : Shared) (v : Value), BindsTo s fd ⟨[v], []⟩ [("_law_script", v)]) ∧ ∀ base : Heap, K.In base → base.Ns mainGlobals mg → FnG l.prog w K mg base 6 fa fd ["_law_script"] (spM K 1 S_law) := by
  have e := hfa.symm.trans (PySem.W.mg_of X G a12)
  cases e
  have hz : ∀ x ∈ bn, mg x = none := fun x hx => by
    simp only [bn, List.mem_cons, List.not_mem_nil, or_false] at hx
    rcases hx with rfl | rfl | rfl | rfl | rfl | rfl | rfl | rfl | rfl | rfl
    · exact PySem.W.mg_none_of X G z0
    · exact PySem.W.mg_none_of X G z1
    · exact PySem.W.mg_none_of X G z2
    · exact PySem.W.mg_none_of X G z3
    · exact PySem.W.mg_none_of X G z4
    · exact PySem.W.mg_none_of X G z5
    · exact PySem.W.mg_none_of X G z6
    · exact PySem.W.mg_none_of X G z7
    · exact PySem.W.mg_none_of X G z8
    · exact PySem.W.mg_none_of X G z9
  have F0 := fun_mk (st := st_threes) l0 c0 k0
  have b0 := F0.binds (ps := ["things", "ring"]) fun _ _ _ _ _ _ us hl => match us, hl with | [_, _], _ => rfl
  have F1 := fun_mk (st := st_meet) l1 c1 k1
  have b1 := F1.binds (ps := ["one", "two", "three"]) fun _ _ _ _ _ _ us hl => match us, hl with | [_, _, _], _ => rfl
  have F2 := fun_mk (st := st_beat) l2 c2 k2
  have b2 := kw_binds (ps := ["stand", "ring"]) (n := 1) (funD_mk (st := st_beat) l2 c2 k2 w2) rfl fun _ _ _ _ _ _ us v hl => match us, hl with | [_], _ => ⟨_, _, _, _, _, _, rfl, rfl, rfl⟩
  have kb2 : KBn K _ ["stand", "ring"] 1 ["ring"] (fun us ws => us ++ ws) (fun vs zs => vs ++ zs) := kw_kbn (fd := PySem.W.fnOf "beat" "beat" (defArgs st_beat) (defBody st_beat) (defScope st_beat) .none (.ref D2) dc2 pm2 an2 cd2 ct2) fun us v hl => match us, hl with | [_], _ => rfl
  have F3 := fun_mk (st := st__law_begun) l3 c3 k3
  have b3 := F3.binds (ps := ["_law_script"]) fun _ _ _ _ _ _ us hl => match us, hl with | [_], _ => rfl
  have F4 := fun_mk (st := st__law_draw) l4 c4 k4
  have b4 := F4.binds (ps := ["_law_tape", "_law_many"]) fun _ _ _ _ _ _ us hl => match us, hl with | [_, _], _ => rfl
  have F5 := fun_mk (st := st__law_pick) l5 c5 k5
  have b5 := F5.binds (ps := ["_law_tape", "_law_some"]) fun _ _ _ _ _ _ us hl => match us, hl with | [_, _], _ => rfl
  have F6 := fun_mk (st := st__law_done) l6 c6 k6
  have b6 := F6.binds (ps := ["_law_tape", "_law_causes", "_law_clashes"]) fun _ _ _ _ _ _ us hl => match us, hl with | [_, _, _], _ => rfl
  have F7 := fun_mk (st := st__law_book) l7 c7 k7
  have b7 := F7.binds (ps := ["_law_tape", "_law_many"]) fun _ _ _ _ _ _ us hl => match us, hl with | [_, _], _ => rfl
  have F8 := fun_mk (st := st__law_spot) l8 c8 k8
  have b8 := F8.binds (ps := ["_law_tape", "_law_book_here"]) fun _ _ _ _ _ _ us hl => match us, hl with | [_, _], _ => rfl
  have F9 := fun_mk (st := st__law_stand) l9 c9 k9
  have b9 := F9.binds (ps := ["_law_tape", "_law_book_here", "_law_many"]) fun _ _ _ _ _ _ us hl => match us, hl with | [_, _, _], _ => rfl
  have F10 := fun_mk (st := st__law_kind) l10 c10 k10
  have b10 := F10.binds (ps := ["_law_tape", "_law_stand_here"]) fun _ _ _ _ _ _ us hl => match us, hl with | [_, _], _ => rfl
  have F11 := fun_mk (st := st__law_folk) l11 c11 k11
  have b11 := F11.binds (ps := ["_law_tape"]) fun _ _ _ _ _ _ us hl => match us, hl with | [_], _ => rfl
  have F12 := fun_mk (st := st_law) l12 c12 k12
  have b12 := F12.binds (ps := ["_law_script"]) fun _ _ _ _ _ _ us hl => match us, hl with | [_], _ => rfl
  refine ⟨PySem.W.fnOf "law" "law" (defArgs st_law) (defBody st_law) (defScope st_law) .none kV12 dc12 pm12 an12 cd12 ct12, fun s v => .of_eq rfl, fun base _ _ => ?_⟩
  have h_threes : Has l.prog w K mg base 1 2 "threes" ["things", "ring"] S_threes := ⟨_, _, ok_threes F0 hz, PySem.W.mg_of X G a0, k0, b0⟩
  have h_meet : Has l.prog w K mg base 1 3 "meet" ["one", "two", "three"] S_meet := ⟨_, _, ok_meet F1 hz, PySem.W.mg_of X G a1, k1, b1⟩
  have h_beat : HasK l.prog w K mg base 2 1 "beat" "ring" ["stand", "ring"] S_beat := ⟨_, _, ok_beat F2 hz h_threes h_meet, PySem.W.mg_of X G a2, k2, b2, kb2⟩
  have h__law_begun : Has l.prog w K mg base 1 1 "_law_begun" ["_law_script"] S__law_begun := ⟨_, _, ok__law_begun F3 hz, PySem.W.mg_of X G a3, k3, b3⟩
  have h__law_draw : Has l.prog w K mg base 1 2 "_law_draw" ["_law_tape", "_law_many"] S__law_draw := ⟨_, _, ok__law_draw F4 hz, PySem.W.mg_of X G a4, k4, b4⟩
  have h__law_pick : Has l.prog w K mg base 2 2 "_law_pick" ["_law_tape", "_law_some"] S__law_pick := ⟨_, _, ok__law_pick F5 hz h__law_draw, PySem.W.mg_of X G a5, k5, b5⟩
  have h__law_done : Has l.prog w K mg base 3 3 "_law_done" ["_law_tape", "_law_causes", "_law_clashes"] S__law_done := ⟨_, _, ok__law_done F6 hz h__law_pick h__law_draw, PySem.W.mg_of X G a6, k6, b6⟩
  have h__law_book : Has l.prog w K mg base 4 2 "_law_book" ["_law_tape", "_law_many"] S__law_book := ⟨_, _, ok__law_book F7 hz h__law_pick h__law_done h__law_draw, PySem.W.mg_of X G a7, k7, b7⟩
  have h__law_spot : Has l.prog w K mg base 4 2 "_law_spot" ["_law_tape", "_law_book_here"] S__law_spot := ⟨_, _, ok__law_spot F8 hz h__law_done, PySem.W.mg_of X G a8, k8, b8⟩
  have h__law_stand : Has l.prog w K mg base 5 3 "_law_stand" ["_law_tape", "_law_book_here", "_law_many"] S__law_stand := ⟨_, _, ok__law_stand F9 hz h__law_pick h__law_spot h__law_draw, PySem.W.mg_of X G a9, k9, b9⟩
  have h__law_kind : Has l.prog w K mg base 2 2 "_law_kind" ["_law_tape", "_law_stand_here"] S__law_kind := ⟨_, _, ok__law_kind F10 hz h__law_draw, PySem.W.mg_of X G a10, k10, b10⟩
  have h__law_folk : Has l.prog w K mg base 3 1 "_law_folk" ["_law_tape"] S__law_folk := ⟨_, _, ok__law_folk F11 hz h__law_draw h__law_pick, PySem.W.mg_of X G a11, k11, b11⟩
  exact ok_law F12 hz h__law_begun h__law_draw h__law_book h__law_folk h__law_stand h__law_kind h_beat
end Q
open PySem PySem.W PyProof.Rows
set_option maxHeartbeats 0 in
theorem PySem.Challenge.cw_meetrow_k33_a_beat_holds : PySem.Challenge.rw_meetrow_k33_a_beat.Holds := by
  w_on; o_law; k_head; (case hw => w_witness2)
  k_fill
  refine M.walk_D (l := PySem.Challenge.rw_meetrow_k33_a_beat) (n := 63) (k := 6) (x := "_law_script") Q.S_law rfl (by decide) rfl ⟨rfl, by decide, by decide⟩ (fun w h Y => PySem.W.kIn_of Y) ?F (fun ns hl => ⟨ns, rfl, hl, rfl⟩)
  case F =>
    intro w mg fa h KX G hmg
    refine' Q.all_mk KX G hmg ?a0 ?l0 ?c0 ?k0 ?a1 ?l1 ?c1 ?k1 ?a2 ?l2 ?c2 ?k2 ?w2 ?a3 ?l3 ?c3 ?k3 ?a4 ?l4 ?c4 ?k4 ?a5 ?l5 ?c5 ?k5 ?a6 ?l6 ?c6 ?k6 ?a7 ?l7 ?c7 ?k7 ?a8 ?l8 ?c8 ?k8 ?a9 ?l9 ?c9 ?k9 ?a10 ?l10 ?c10 ?k10 ?a11 ?l11 ?c11 ?k11 ?a12 ?l12 ?c12 ?k12 ?z0 ?z1 ?z2 ?z3 ?z4 ?z5 ?z6 ?z7 ?z8 ?z9
    (case a0 => k_is); (case l0 => k_is); (case c0 => k_is); (case k0 => k_is); (case a1 => k_is); (case l1 => k_is); (case c1 => k_is); (case k1 => k_is); (case a2 => k_is); (case l2 => k_is); (case c2 => k_is); (case k2 => k_is); (case w2 => k_is); (case a3 => k_is); (case l3 => k_is); (case c3 => k_is); (case k3 => k_is); (case a4 => k_is); (case l4 => k_is); (case c4 => k_is); (case k4 => k_is); (case a5 => k_is); (case l5 => k_is); (case c5 => k_is); (case k5 => k_is); (case a6 => k_is); (case l6 => k_is); (case c6 => k_is); (case k6 => k_is); (case a7 => k_is); (case l7 => k_is); (case c7 => k_is); (case k7 => k_is); (case a8 => k_is); (case l8 => k_is); (case c8 => k_is); (case k8 => k_is); (case a9 => k_is); (case l9 => k_is); (case c9 => k_is); (case k9 => k_is); (case a10 => k_is); (case l10 => k_is); (case c10 => k_is); (case k10 => k_is); (case a11 => k_is); (case l11 => k_is); (case c11 => k_is); (case k11 => k_is); (case a12 => k_is); (case l12 => k_is); (case c12 => k_is); (case k12 => k_is); (case z0 => k_is); (case z1 => k_is); (case z2 => k_is); (case z3 => k_is); (case z4 => k_is); (case z5 => k_is); (case z6 => k_is); (case z7 => k_is); (case z8 => k_is); (case z9 => k_is)

