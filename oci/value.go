package oci

import (
	"slices"
	"strings"

	"orlop/api"
	"orlop/json"
	"orlop/word"
)

// The names of members.
const (
	versionName = "schemaVersion"
	layersName  = "layers"
	mediaName   = "mediaType"
	digestName  = "digest"
	sizeName    = "size"
	notesName   = "annotations"
)

const (
	version    = 2
	digestMark = "sha256:"
)

// JSON: a manifest written. ErrArg, ErrLimit.
func JSON(m api.Manifest) (string, api.Code) {
	if !May(m) {
		return "", api.ErrArg
	}
	text := json.Write(valueOf(m))
	if len(text) > api.MaxJSON {
		return "", api.ErrLimit
	}
	return text, api.OK
}

// FromJSON: the manifest of a text. ErrLimit, ErrFormat. The value of what was read is held against the one that was there, so that valueOf alone says which members there are, and of what kinds. That the members' order doesn't count holds for notes too, then: theirs was judged by May.
func FromJSON(b []byte) (api.Manifest, api.Code) {
	v, code := json.Parse(b)
	if code != api.OK {
		return api.Manifest{}, code
	}
	m := manifestOf(v)
	if !May(m) || !json.Same(sorted(v), sorted(valueOf(m))) {
		return api.Manifest{}, api.ErrFormat
	}
	return m, api.OK
}

// valueOf: a manifest's value.
func valueOf(m api.Manifest) api.Value {
	layers := api.Value{Kind: api.List}
	for _, d := range m.Parts {
		layers.List = append(layers.List, valueOfDescriptor(d))
	}
	return valueWith(m.Notes, wholeMember(versionName, version), api.Member{Name: layersName, Value: layers})
}

func valueOfDescriptor(d api.Descriptor) api.Value {
	return valueWith(d.Notes, textMember(mediaName, d.Media), textMember(digestName, digestMark+word.Hex(d.Digest)), wholeMember(sizeName, d.Size))
}

// valueWith: the map of members, and of notes, if there are any.
func valueWith(notes []api.Note, members ...api.Member) api.Value {
	if len(notes) > 0 {
		annotations := api.Value{Kind: api.Map}
		for _, n := range notes {
			annotations.Map = append(annotations.Map, textMember(n.Name, n.Text))
		}
		members = append(members, api.Member{Name: notesName, Value: annotations})
	}
	return api.Value{Kind: api.Map, Map: members}
}

func textMember(name, text string) api.Member {
	return api.Member{Name: name, Value: api.Value{Kind: api.Text, Text: text}}
}

func wholeMember(name string, n int) api.Member {
	return api.Member{Name: name, Value: api.Value{Kind: api.Num, Num: int64(n)}}
}

// manifestOf: what a value tells, as if it were a manifest's: what is missing, or of another kind, is nothing.
func manifestOf(v api.Value) api.Manifest {
	member := membersOf(v)
	layers := values(member(layersName).List)
	return api.Manifest{Parts: listOf(len(layers), layers.descriptor), Notes: notesOf(member(notesName))}
}

func notesOf(v api.Value) []api.Note { return listOf(len(v.Map), members(v.Map).note) }

// values are those of a list.
type values []api.Value

func (l values) descriptor(i int) api.Descriptor {
	member := membersOf(l[i])
	digest, _ := word.Unhex(strings.TrimPrefix(member(digestName).Text, digestMark))
	return api.Descriptor{
		Media:  member(mediaName).Text,
		Digest: digest,
		Size:   int(member(sizeName).Num),
		Notes:  notesOf(member(notesName)),
	}
}

// members are those of a map.
type members []api.Member

func (l members) note(i int) api.Note { return api.Note{Name: l[i].Name, Text: l[i].Value.Text} }

// membersOf: what is asked for a map's members by their names; one that there isn't is null.
func membersOf(v api.Value) func(name string) api.Value {
	return func(name string) api.Value {
		member, _ := json.Get(v, name)
		return member
	}
}

// sorted: a value, the members of each map within it rising by their names. They are moved where they lie, so that what is within comes with it.
func sorted(v api.Value) api.Value {
	for _, element := range v.List {
		sorted(element)
	}
	for _, m := range v.Map {
		sorted(m.Value)
	}
	slices.SortFunc(v.Map, func(a, b api.Member) int { return strings.Compare(a.Name, b.Name) })
	return v
}
