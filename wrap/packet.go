package wrap

import (
	"orlop/api"
	"orlop/mac"
)

const (
	mark = 1            // what a packet begins with
	info = "orlop wrap" // what a packet's key is derived for

	// where in a packet its parts begin
	pointFrom = 1
	onceFrom  = pointFrom + api.KeyLen
	boxFrom   = onceFrom + api.KeyLen
)

// parts are those of a packet, as they lie in it: what is copied into a part is in the packet.
type parts struct{ mark, point, once, box []byte }

// cut: the parts of as many bytes as a packet has. Each ends where its room does, so that nothing that is put behind one gets into the next.
func cut(packet []byte) parts {
	return parts{
		mark:  packet[:pointFrom:pointFrom],
		point: packet[pointFrom:onceFrom:onceFrom],
		once:  packet[onceFrom:boxFrom:boxFrom],
		box:   packet[boxFrom:api.PacketLen:api.PacketLen],
	}
}

// read: the parts of a packet, and whether it is one.
func read(packet []byte) (parts, bool) {
	if len(packet) != api.PacketLen || packet[0] != mark {
		return parts{}, false
	}
	return cut(packet), true
}

// key: the packet's, of the secret that both points share. Both are its salt, so that no packet whose points were changed is opened, even where they share the same. (So few bytes can always be derived.)
func (p parts) key(secret []byte) []byte {
	salt := append(p.once, p.point...) // new memory, as once has no room behind it
	key, _ := mac.Derive(secret, salt, []byte(info), api.KeyLen)
	return key
}

// nonce: the same for all packets, as each has a key of its own, once being used once.
func nonce() []byte { return make([]byte, api.NonceLen) }
